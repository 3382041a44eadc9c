import Derived.Test.YtaodcahkkeobdaaAbS
namespace Go.Proofs.Ytaodcahkkeobdaa
open Go.RowKit
set_option linter.unusedVariables false

theorem nvalI (x : Int) (w : World) : Calls Try.prog 41 #[.int .i64 x] w fun e w' => e = .returned (.bool (nin x)) ∧ w' = w := by
  by_cases h0 : 0 ≤ x
  · have e : nin x = decide (x ≤ 4611686018427387903) := by unfold nin; rw [decide_eq_true h0]; rfl
    have E : Hid _ := And.intro e True.intro
    clear e
    go_enter Try.func41, Try.ntmps41
    go_wp2
    go_ret
    exact ⟨by rw [E.out.1]; rfl, rfl⟩
  · have e : nin x = false := by unfold nin; rw [decide_eq_false h0]; rfl
    have E : Hid _ := And.intro e True.intro
    clear e
    have d : decide (0 ≤ x) = false := decide_eq_false h0
    go_enter Try.func41, Try.ntmps41
    go_wp2
    go_ret
    exact ⟨by rw [E.out.1]; rfl, rfl⟩
set_option maxRecDepth 20000 in
set_option maxHeartbeats 2000000 in
theorem riseI (xs : List Int) (ao : Option Addr) (cp : Nat) (s : Bool) (w : World) (hx : Row w .i64 (.slice ao xs.length cp) xs) (hl : xs.length ≤ 4096) (hs : (s = true ∧ ∀ j, j < xs.length → ngood xs j) ∨ (s = false ∧ ∃ j, j < xs.length ∧ ¬ ngood xs j)) :
    Calls Try.prog 36 #[.slice ao xs.length cp] w fun e w' => e = .returned (.bool s) ∧ w' = w := by
  obtain ⟨m, em⟩ : ∃ m, m = xs.length := ⟨_, rfl⟩
  have EM : Hid _ := And.intro em (And.intro hx hs)
  rw [← em] at hl ⊢
  clear hx hs em
  go_enter Try.func36, Try.ntmps36
  go_wp2_with fail
  go_loopg [7] m (fun q i wr => ∃ k : Nat, k ≤ m ∧ q = m - k ∧ i = .int .i64 (k : Int) ∧ wr = w ∧ ∀ j, j < k → ngood xs j)
  case atStart => exact ⟨0, by omega, by omega, rfl, rfl, fun j hj => by omega⟩
  case round =>
    obtain ⟨k, hk0, hq, rfl, ewr, hgd⟩ := hrel
    subst wr
    by_cases hlt : k < m
    · obtain ⟨b, off, cap, ev, hbl, hc⟩ := EM.out.2.1.at (by have := EM.out.1; omega)
      simp only [Value.slice.injEq] at ev
      obtain ⟨ra, em2, rfl⟩ := ev
      clear em2
      subst ra
      obtain ⟨x, ex⟩ : ∃ x, x = xs.getD k 0 := ⟨_, rfl⟩
      have c0 := hc k (by have := EM.out.1; omega)
      rw [← ex] at c0
      have VN := fun w => nvalI x w
      cases hv : nin x with
      | false =>
        rw [hv] at VN
        have hsf : s = false := by
          rcases EM.out.2.2 with ⟨_, h⟩ | ⟨h, _⟩
          · have := (h k (by have := EM.out.1; omega)).1; rw [← ex, hv] at this; cases this
          · exact h
        have V : Hid _ := And.intro VN hsf
        clear VN hsf hc ex hgd
        go_wp2_with (go_at_call 41; refine (V.out.1 _).mono ?_; rintro e w' ⟨rfl, hw⟩; subst w')
        go_ret
        rw [V.out.2]
        exact ⟨rfl, by trivial⟩
      | true =>
        rw [hv] at VN
        have V : Hid _ := And.intro VN True.intro
        clear VN
        cases k with
        | zero =>
          have G : Hid _ := And.intro (show ngood xs 0 from ⟨by rw [← ex]; exact hv, fun h => absurd h (by omega)⟩) True.intro
          rw [Nat.add_zero] at c0
          clear hc ex hgd
          have d4 : decide ((0 : Int) < 0) = false := rfl
          go_wp2_with (go_at_call 41; refine (V.out.1 _).mono ?_; rintro e w' ⟨rfl, hw⟩; subst w')
          go_roundg (m - (0 + 1))
          case measure => omega
          case rel => exact ⟨0 + 1, by omega, rfl, by go_num, by trivial, fun j hj => by have e : j = 0 := (by omega); rw [e]; exact G.out.1⟩
        | succ k =>
          have ek : ((k + 1 : Nat) : Int) = (k : Int) + 1 := by simp
          obtain ⟨y, ey⟩ : ∃ y, y = xs.getD k 0 := ⟨_, rfl⟩
          have c1 := hc k (by have := EM.out.1; omega)
          rw [← ey] at c1
          have hw : IntKind.i64.wrap ((k : Int) + 1 - 1) = (k : Int) := by rw [IntKind.wrap_i64]; omega
          by_cases h3 : x ≤ y
          · have hsf : s = false := by
              rcases EM.out.2.2 with ⟨_, h⟩ | ⟨h, _⟩
              · have := (h (k + 1) (by have := EM.out.1; omega)).2 (by omega); rw [Nat.add_sub_cancel, ← ex, ← ey] at this; omega
              · exact h
            have H2 : Hid _ := And.intro hsf True.intro
            clear hc ex ey hgd hsf
            rw [ek]
            go_wp2_with (go_at_call 41; refine (V.out.1 _).mono ?_; rintro e w' ⟨rfl, hw'⟩; subst w')
            go_ret
            rw [H2.out.1]
            exact ⟨rfl, by trivial⟩
          · have d3 : decide (x ≤ y) = false := decide_eq_false h3
            have G : Hid _ := And.intro (show ngood xs (k + 1) from ⟨by rw [← ex]; exact hv, fun _ => by rw [Nat.add_sub_cancel, ← ex, ← ey]; omega⟩) hgd
            clear hc ex ey hgd
            rw [ek]
            go_wp2_with (go_at_call 41; refine (V.out.1 _).mono ?_; rintro e w' ⟨rfl, hw'⟩; subst w')
            go_roundg (m - (k + 1 + 1))
            case measure => omega
            case rel => exact ⟨k + 1 + 1, by omega, rfl, by go_num, by trivial, fun j hj => by
              by_cases e : j = k + 1
              · rw [e]; exact G.out.1
              · exact G.out.2 j (by omega)⟩
    · have hst : s = true := by
        rcases EM.out.2.2 with ⟨h, _⟩ | ⟨_, j, hj, hb⟩
        · exact h
        · exact absurd (hgd j (by have := EM.out.1; omega)) hb
      have H2 : Hid _ := And.intro hst True.intro
      clear hst hgd
      go_wp2
      go_ret
      rw [H2.out.1]
      exact ⟨rfl, by trivial⟩

set_option maxRecDepth 20000 in
set_option maxHeartbeats 8000000 in
theorem abI_long (h : F8) (a2 a3 a4 : Option Addr) (p2 p3 p4 : Nat) (xs : List Int) (ao : Option Addr) (cp : Nat) (w : World) (hl : 4096 < xs.length) (hm : xs.length ≤ 9223372036854775807) :
    Calls Try.prog 18 #[.agg #[.int .i64 h.k, .int .i64 h.a, .int .i64 h.b, .int .i64 h.c, .bool h.fin, .slice a2 h.d.length p2, .slice a3 h.t.length p3, .slice a4 h.r.length p4], .slice ao xs.length cp] w fun e w' => ∃ r, e = .returned (.tuple #[r, .int .i64 4]) ∧ w'.ownsRow w.heap.size 3 1 r ([] : List Int).length (([] : List Int).map (Value.int .i64)) ∧ Below w.heap.size w w' := by
  have A0 : Below w.heap.size w (w.alloc (.cells #[.int .i64 h.k, .int .i64 h.a, .int .i64 h.b, .int .i64 h.c, .bool h.fin, .slice a2 h.d.length p2, .slice a3 h.t.length p3, .slice a4 h.r.length p4] 27)) := (Below.refl _ _).alloc (Nat.le_refl _) _
  have K0 := heap_alloc_new w (.cells #[.int .i64 h.k, .int .i64 h.a, .int .i64 h.b, .int .i64 h.c, .bool h.fin, .slice a2 h.d.length p2, .slice a3 h.t.length p3, .slice a4 h.r.length p4] 27)
  have HH : Hid _ := And.intro A0 K0
  clear A0 K0
  generalize xs.length = m at hl hm
  have hd : (4096 : Int) < (m : Int) := by omega
  go_enter Try.func18, Try.ntmps18
  go_wp2
  go_ret2
  exact ⟨_, rfl, World.ownsRow_nil _ _ _ _, HH.out.1⟩
set_option maxRecDepth 20000 in
set_option maxHeartbeats 8000000 in
theorem abI_kind (h : F8) (a2 a3 a4 : Option Addr) (p2 p3 p4 : Nat) (xs : List Int) (ao : Option Addr) (cp : Nat) (w : World) (hl : xs.length ≤ 4096) (hk : h.k ≠ 2) :
    Calls Try.prog 18 #[.agg #[.int .i64 h.k, .int .i64 h.a, .int .i64 h.b, .int .i64 h.c, .bool h.fin, .slice a2 h.d.length p2, .slice a3 h.t.length p3, .slice a4 h.r.length p4], .slice ao xs.length cp] w fun e w' => ∃ r, e = .returned (.tuple #[r, .int .i64 1]) ∧ w'.ownsRow w.heap.size 3 1 r ([] : List Int).length (([] : List Int).map (Value.int .i64)) ∧ Below w.heap.size w w' := by
  have A0 : Below w.heap.size w (w.alloc (.cells #[.int .i64 h.k, .int .i64 h.a, .int .i64 h.b, .int .i64 h.c, .bool h.fin, .slice a2 h.d.length p2, .slice a3 h.t.length p3, .slice a4 h.r.length p4] 27)) := (Below.refl _ _).alloc (Nat.le_refl _) _
  have K0 := heap_alloc_new w (.cells #[.int .i64 h.k, .int .i64 h.a, .int .i64 h.b, .int .i64 h.c, .bool h.fin, .slice a2 h.d.length p2, .slice a3 h.t.length p3, .slice a4 h.r.length p4] 27)
  have HH : Hid _ := And.intro A0 K0
  clear A0 K0
  generalize xs.length = m at hl
  have hd : decide ((4096 : Int) < (m : Int)) = false := decide_eq_false (by omega)
  have hk2 : (h.k != 2) = true := by simpa using hk
  go_enter Try.func18, Try.ntmps18
  go_wp2
  go_ret2
  exact ⟨_, rfl, World.ownsRow_nil _ _ _ _, HH.out.1⟩
set_option maxRecDepth 20000 in
set_option maxHeartbeats 8000000 in
theorem abI_frame (h : F8) (a2 a3 a4 : Option Addr) (p2 p3 p4 : Nat) (xs : List Int) (ao : Option Addr) (cp : Nat) (w : World) (hrow : FRow w (.agg #[.int .i64 h.k, .int .i64 h.a, .int .i64 h.b, .int .i64 h.c, .bool h.fin, .slice a2 h.d.length p2, .slice a3 h.t.length p3, .slice a4 h.r.length p4]) h) (hx : Row w .i64 (.slice ao xs.length cp) xs) (hl : xs.length ≤ 4096) (hk : h.k = 2) (hS : ∀ v w, FRow w v h → Calls Try.prog 25 #[v] w fun e w' => e = .returned (.bool false) ∧ Below w.heap.size w w') :
    Calls Try.prog 18 #[.agg #[.int .i64 h.k, .int .i64 h.a, .int .i64 h.b, .int .i64 h.c, .bool h.fin, .slice a2 h.d.length p2, .slice a3 h.t.length p3, .slice a4 h.r.length p4], .slice ao xs.length cp] w fun e w' => ∃ r, e = .returned (.tuple #[r, .int .i64 1]) ∧ w'.ownsRow w.heap.size 3 1 r ([] : List Int).length (([] : List Int).map (Value.int .i64)) ∧ Below w.heap.size w w' := by
  have A0 : Below w.heap.size w (w.alloc (.cells #[.int .i64 h.k, .int .i64 h.a, .int .i64 h.b, .int .i64 h.c, .bool h.fin, .slice a2 h.d.length p2, .slice a3 h.t.length p3, .slice a4 h.r.length p4] 27)) := (Below.refl _ _).alloc (Nat.le_refl _) _
  have K0 := heap_alloc_new w (.cells #[.int .i64 h.k, .int .i64 h.a, .int .i64 h.b, .int .i64 h.c, .bool h.fin, .slice a2 h.d.length p2, .slice a3 h.t.length p3, .slice a4 h.r.length p4] 27)
  have OK := hS _ _ (hrow.below A0)
  have HH : Hid _ := And.intro A0 (And.intro K0 (And.intro OK (And.intro hrow hx)))
  obtain ⟨m, em⟩ : ∃ m, m = xs.length := ⟨_, rfl⟩
  have EM : Hid _ := And.intro em True.intro
  rw [← em] at hl HH ⊢
  clear A0 K0 OK hS hrow hx em
  have hd : decide ((4096 : Int) < (m : Int)) = false := decide_eq_false (by omega)
  have hk2 : (h.k != 2) = false := by simp [hk]
  clear hk
  go_enter Try.func18, Try.ntmps18
  go_wp2_with fail
  go_at_call 25
  refine HH.out.2.2.1.mono ?_
  rintro e w1 ⟨rfl, b1⟩
  have K1 := (b1.block w.heap.size (by simp)).trans HH.out.2.1
  have L1 : w.heap.size < w1.heap.size := (Array.getElem?_eq_some_iff.1 K1).1
  have B1 := HH.out.1.trans (b1.mono HH.out.1.size)
  have H1 : Hid _ := And.intro B1 True.intro
  clear b1 K1 B1
  go_wp2
  go_ret2
  exact ⟨_, rfl, World.ownsRow_nil _ _ _ _, H1.out.1⟩
set_option maxRecDepth 20000 in
set_option maxHeartbeats 8000000 in
theorem abI_rise (h : F8) (a2 a3 a4 : Option Addr) (p2 p3 p4 : Nat) (xs : List Int) (ao : Option Addr) (cp : Nat) (w : World) (hrow : FRow w (.agg #[.int .i64 h.k, .int .i64 h.a, .int .i64 h.b, .int .i64 h.c, .bool h.fin, .slice a2 h.d.length p2, .slice a3 h.t.length p3, .slice a4 h.r.length p4]) h) (hx : Row w .i64 (.slice ao xs.length cp) xs) (hl : xs.length ≤ 4096) (hk : h.k = 2) (hS : ∀ v w, FRow w v h → Calls Try.prog 25 #[v] w fun e w' => e = .returned (.bool true) ∧ Below w.heap.size w w') (hb : ∃ j, j < xs.length ∧ ¬ ngood xs j) :
    Calls Try.prog 18 #[.agg #[.int .i64 h.k, .int .i64 h.a, .int .i64 h.b, .int .i64 h.c, .bool h.fin, .slice a2 h.d.length p2, .slice a3 h.t.length p3, .slice a4 h.r.length p4], .slice ao xs.length cp] w fun e w' => ∃ r, e = .returned (.tuple #[r, .int .i64 1]) ∧ w'.ownsRow w.heap.size 3 1 r ([] : List Int).length (([] : List Int).map (Value.int .i64)) ∧ Below w.heap.size w w' := by
  have A0 : Below w.heap.size w (w.alloc (.cells #[.int .i64 h.k, .int .i64 h.a, .int .i64 h.b, .int .i64 h.c, .bool h.fin, .slice a2 h.d.length p2, .slice a3 h.t.length p3, .slice a4 h.r.length p4] 27)) := (Below.refl _ _).alloc (Nat.le_refl _) _
  have K0 := heap_alloc_new w (.cells #[.int .i64 h.k, .int .i64 h.a, .int .i64 h.b, .int .i64 h.c, .bool h.fin, .slice a2 h.d.length p2, .slice a3 h.t.length p3, .slice a4 h.r.length p4] 27)
  have OK := hS _ _ (hrow.below A0)
  have HH : Hid _ := And.intro A0 (And.intro K0 (And.intro OK (And.intro hrow hx)))
  obtain ⟨m, em⟩ : ∃ m, m = xs.length := ⟨_, rfl⟩
  have EM : Hid _ := And.intro em True.intro
  rw [← em] at hl HH ⊢
  clear A0 K0 OK hS hrow hx em
  have hd : decide ((4096 : Int) < (m : Int)) = false := decide_eq_false (by omega)
  have hk2 : (h.k != 2) = false := by simp [hk]
  clear hk
  go_enter Try.func18, Try.ntmps18
  go_wp2_with fail
  go_at_call 25
  refine HH.out.2.2.1.mono ?_
  rintro e w1 ⟨rfl, b1⟩
  have K1 := (b1.block w.heap.size (by simp)).trans HH.out.2.1
  have L1 : w.heap.size < w1.heap.size := (Array.getElem?_eq_some_iff.1 K1).1
  have B1 := HH.out.1.trans (b1.mono HH.out.1.size)
  have CR := riseI xs ao cp false w1 (by rw [← EM.out.1]; exact HH.out.2.2.2.2.below B1) (by rw [← EM.out.1]; exact hl) (Or.inr ⟨rfl, hb⟩)
  rw [← EM.out.1] at CR
  have H1 : Hid _ := And.intro B1 CR
  clear b1 K1 B1 CR hb
  go_wp2_with (go_at_call 36; refine H1.out.2.mono ?_; rintro e w' ⟨rfl, hw⟩; subst w')
  go_ret2
  exact ⟨_, rfl, World.ownsRow_nil _ _ _ _, H1.out.1⟩
set_option maxRecDepth 20000 in
set_option maxHeartbeats 8000000 in
theorem abI_ok (h : F8) (a2 a3 a4 : Option Addr) (p2 p3 p4 : Nat) (xs : List Int) (ao : Option Addr) (cp : Nat) (w : World) (hrow : FRow w (.agg #[.int .i64 h.k, .int .i64 h.a, .int .i64 h.b, .int .i64 h.c, .bool h.fin, .slice a2 h.d.length p2, .slice a3 h.t.length p3, .slice a4 h.r.length p4]) h) (hx : Row w .i64 (.slice ao xs.length cp) xs) (hl : xs.length ≤ 4096) (hk : h.k = 2) (hS : ∀ v w, FRow w v h → Calls Try.prog 25 #[v] w fun e w' => e = .returned (.bool true) ∧ Below w.heap.size w w') (hr : rokV h.r = true) (hR : h.r.length ≤ 1048576) (hall : ∀ j, j < xs.length → ngood xs j) :
    Calls Try.prog 18 #[.agg #[.int .i64 h.k, .int .i64 h.a, .int .i64 h.b, .int .i64 h.c, .bool h.fin, .slice a2 h.d.length p2, .slice a3 h.t.length p3, .slice a4 h.r.length p4], .slice ao xs.length cp] w fun e w' => ∃ r, e = .returned (.tuple #[r, .int .i64 0]) ∧ w'.ownsRow w.heap.size 3 1 r (accL h.r xs).length ((accL h.r xs).map (Value.int .i64)) ∧ Below w.heap.size w w' := by
  have A0 : Below w.heap.size w (w.alloc (.cells #[.int .i64 h.k, .int .i64 h.a, .int .i64 h.b, .int .i64 h.c, .bool h.fin, .slice a2 h.d.length p2, .slice a3 h.t.length p3, .slice a4 h.r.length p4] 27)) := (Below.refl _ _).alloc (Nat.le_refl _) _
  have K0 := heap_alloc_new w (.cells #[.int .i64 h.k, .int .i64 h.a, .int .i64 h.b, .int .i64 h.c, .bool h.fin, .slice a2 h.d.length p2, .slice a3 h.t.length p3, .slice a4 h.r.length p4] 27)
  have OK := hS _ _ (hrow.below A0)
  have HH : Hid _ := And.intro A0 (And.intro K0 (And.intro OK (And.intro hrow hx)))
  obtain ⟨m, em⟩ : ∃ m, m = xs.length := ⟨_, rfl⟩
  have EM : Hid _ := And.intro em True.intro
  rw [← em] at hl HH ⊢
  clear A0 K0 OK hS hrow hx em
  have hd : decide ((4096 : Int) < (m : Int)) = false := decide_eq_false (by omega)
  have hk2 : (h.k != 2) = false := by simp [hk]
  clear hk
  go_enter Try.func18, Try.ntmps18
  go_wp2_with fail
  go_at_call 25
  refine HH.out.2.2.1.mono ?_
  rintro e w1 ⟨rfl, b1⟩
  have K1 := (b1.block w.heap.size (by simp)).trans HH.out.2.1
  have L1 : w.heap.size < w1.heap.size := (Array.getElem?_eq_some_iff.1 K1).1
  have B1 := HH.out.1.trans (b1.mono HH.out.1.size)
  have CR := riseI xs ao cp true w1 (by rw [← EM.out.1]; exact HH.out.2.2.2.2.below B1) (by rw [← EM.out.1]; exact hl) (Or.inl ⟨rfl, hall⟩)
  rw [← EM.out.1] at CR
  obtain ⟨_, _, _, _, _, _, ev5, _, _, rR⟩ := HH.out.2.2.2.1.parts
  simp only [Value.agg.injEq, Array.mk.injEq, List.cons.injEq, Value.slice.injEq, true_and, and_true] at ev5
  obtain ⟨⟨rfl, rfl⟩, ⟨rfl, rfl⟩, rfl, rfl⟩ := ev5
  have k7 : w1.cell? ⟨w.heap.size, 7, none⟩ = some (.slice a4 h.r.length p4) := bk_cell K1 7
  have H1 : Hid _ := And.intro B1 (And.intro CR (And.intro (ivOf (.slice a4 h.r.length p4) h.r w1 (rR.below B1) hR) (And.intro hR ((rok_iff h.r).1 hr).2)))
  clear b1 K1 B1 CR hall rR hr hR
  go_wp2_with (go_at_call 36; refine H1.out.2.1.mono ?_; rintro e w' ⟨rfl, hw⟩; subst w')
  go_at_call 37
  refine H1.out.2.2.1.mono ?_
  rintro e w2 ⟨r2, rfl, o2, b2⟩
  have H2 : Hid _ := And.intro (H1.out.1.trans (b2.mono H1.out.1.size)) o2.row
  clear b2 o2
  go_wp2_with fail
  go_loopg [7, 31] m (fun q v i wr => ∃ j : Nat, j ≤ m ∧ q = m - j ∧ i = .int .i64 (j : Int) ∧ wr.ownsRow w2.heap.size 3 1 v (accL h.r (xs.take j)).length ((accL h.r (xs.take j)).map (Value.int .i64)) ∧ Below w2.heap.size w2 wr)
  case atStart => exact ⟨0, by omega, by omega, rfl, World.ownsRow_nil _ _ _ _, Below.refl _ _⟩
  case round =>
    obtain ⟨j, hj0, hq2, rfl, ow, bs⟩ := hrel
    by_cases hlt2 : j < m
    · have bw := H2.out.1.trans (bs.mono H2.out.1.size)
      obtain ⟨b, off, cap, ev, hbl, hc⟩ := HH.out.2.2.2.2.at (by have := EM.out.1; omega)
      simp only [Value.slice.injEq] at ev
      obtain ⟨rfl, em2, rfl⟩ := ev
      clear em2
      obtain ⟨x, ex⟩ : ∃ x, x = xs.getD j 0 := ⟨_, rfl⟩
      have c0 := (bw.cell (p := ⟨b, off + j, none⟩) hbl).trans (hc j (by have := EM.out.1; omega))
      rw [← ex] at c0
      have CH := hasI _ h.r x wr (H2.out.2.below bs) H1.out.2.2.2.1 H1.out.2.2.2.2
      have hal : (accL h.r (xs.take j)).length + 1 ≤ 1099511627776 := by have := accL_length h.r (xs.take j); rw [List.length_take] at this; omega
      have H6 : Hid _ := And.intro ex (And.intro ow (And.intro bs (And.intro CH hal)))
      clear ex ow bs bw CH hal hc
      cases hp : rhasV h.r x with
      | true =>
        rw [hp] at H6
        go_wp2_with (first
          | (go_at_call 38; refine H6.out.2.2.2.1.mono ?_; rintro e w5 ⟨rfl, b5⟩; have H7 : Hid _ := And.intro (owns_below H6.out.2.1 b5) (H6.out.2.2.1.trans (b5.mono H6.out.2.2.1.size)); clear b5)
          | (at_builtin; refine wpList_append_int rfl (.tmp 38) (.tmp 40) rfl w2.heap.size _ (accL h.r (xs.take j)) rfl (H7.out.1.alloc _) w5.heap.size x rfl (cell1 w5 _ _) H6.out.2.2.2.2 ((H7.out.2.alloc H7.out.2.size _).size) ?_; intro v6 w6 o6 g6))
        have H8 : Hid _ := And.intro o6 ((H7.out.2.alloc H7.out.2.size _).grown g6 ((H7.out.2.alloc H7.out.2.size _).size) (fun t ht => (H7.out.1.lt t ht).1))
        clear o6 g6
        go_wp2
        go_roundg (m - (j + 1))
        case measure => omega
        case rel => exact ⟨j + 1, by omega, rfl, by go_num, by rw [accL_yes h.r xs j (by have := EM.out.1; omega) (by rw [← H6.out.1]; exact hp), ← H6.out.1]; exact H8.out.1, H8.out.2⟩
      | false =>
        rw [hp] at H6
        go_wp2_with (go_at_call 38; refine H6.out.2.2.2.1.mono ?_; rintro e w5 ⟨rfl, b5⟩; have H7 : Hid _ := And.intro (owns_below H6.out.2.1 b5) (H6.out.2.2.1.trans (b5.mono H6.out.2.2.1.size)); clear b5)
        go_roundg (m - (j + 1))
        case measure => omega
        case rel => exact ⟨j + 1, by omega, rfl, by go_num, by rw [accL_no h.r xs j (by have := EM.out.1; omega) (by rw [← H6.out.1]; exact hp)]; exact H7.out.1, H7.out.2⟩
    · obtain rfl : j = m := by omega
      have H6 : Hid _ := And.intro ow bs
      clear ow bs
      go_wp2
      go_ret2
      refine ⟨_, rfl, ?_, H2.out.1.trans (H6.out.2.mono H2.out.1.size)⟩
      have := H6.out.1
      rw [EM.out.1, List.take_length] at this
      exact owns_mono this H2.out.1.size
end Go.Proofs.Ytaodcahkkeobdaa
