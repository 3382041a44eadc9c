import Derived.Test.YtoalillggafnpaaGreatDoorPjS
import Derived.Test.YtoalillggafnpaaGreatDoorPjA
import Derived.Test.YtoalillggafnpaaGreatDoorBlocks
import Derived.Deep.RegionHeld3
import Derived.Deep.CutRange
namespace Go.Proofs.YtoalillggafnpaaGreatDoor
open Go.RowKit
set_option linter.unusedVariables false

/-- The source stands, at whatever state. -/
def Dr (W : World) (g : Nat) (c : Value) (xs : List Int) (p : Int) : Prop := Low g c ∧ ∃ s, Drw W g c xs s ∧ s.pos ≤ p
theorem Dr.lt {W : World} {g : Nat} {c : Value} {xs : List Int} {p : Int} (h : Dr W g c xs p) : g < W.heap.size := by
  obtain ⟨_, s, hd, _⟩ := h
  exact drw_lt hd
theorem Dr.mono {W : World} {g : Nat} {c : Value} {xs : List Int} {p q : Int} (h : Dr W g c xs p) (hq : p ≤ q) : Dr W g c xs q := by
  obtain ⟨l, s, hd, hp⟩ := h
  exact ⟨l, s, hd, Int.le_trans hp hq⟩
theorem Dr.alloc {W : World} {g : Nat} {c : Value} {xs : List Int} {p : Int} (h : Dr W g c xs p) (o : Obj) : Dr (W.alloc o) g c xs p := by
  obtain ⟨l, s, hd, hp⟩ := h
  exact ⟨l, s, drw_alloc hd o, hp⟩
theorem Dr.set {W : World} {g b i : Nat} {c u : Value} {xs : List Int} {p : Int} (h : Dr W g c xs p) (hb : g < b) : Dr (W.setCell ⟨b, i, none⟩ u) g c xs p := by
  obtain ⟨l, s, hd, hp⟩ := h
  exact ⟨l, s, hd.kept (grown_setCell W b i u) (fun e => by have := Option.some.inj e; omega) (fun b' off n cap h0 e e' => by have := l b' off n cap h0 e; have := Option.some.inj e'; omega), hp⟩
theorem grownP_set {w wx : World} {g b i : Nat} {u : Value} (h : w.grownBy wx (some g)) (hb : w.heap.size ≤ b) : w.grownBy (wx.setCell ⟨b, i, none⟩ u) (some g) :=
  grown_own h (grown_setCell wx b i u) (fun k e => by have := Option.some.inj e; omega)
theorem Dr.row {W W' : World} {g : Nat} {c v : Value} {xs ys : List Int} {p : Int} (hd : Dr W g c xs p) (h : Row W .u8 v ys) (gr : W.grownBy W' (some g)) : Row W' .u8 v ys := by
  obtain ⟨_, s, hd, _⟩ := hd
  rcases h with h | ⟨b, off, cap, rfl, hb, hcap, hc⟩
  · exact Or.inl h
  · by_cases h0 : 0 < ys.length
    · have hne : b ≠ g := by
        intro e
        subst e
        have h1 := hc 0 h0
        rw [Nat.add_zero] at h1
        have h2 : W.cell? ⟨b, off, none⟩ = (#[c, .int .i64 s.pos, .int .i64 s.seed] : Array Value)[off]? := by simp [World.cell?, hd.blk]
        rw [h2] at h1
        obtain ⟨ao, cp, ec⟩ := hd.row.form
        match off, h1 with
        | 0, h1 => rw [ec] at h1; simp at h1
        | 1, h1 => simp at h1
        | 2, h1 => simp at h1
        | o + 3, h1 => simp at h1
      have hq := gr.block b hb (fun e => hne (Option.some.inj e))
      refine Or.inr ⟨b, off, cap, rfl, Nat.lt_of_lt_of_le hb gr.size, hcap, fun j hj => ?_⟩
      have e : W'.cell? ⟨b, off + j, none⟩ = W.cell? ⟨b, off + j, none⟩ := by simp [World.cell?, hq]
      rw [e]
      exact hc j hj
    · have e : ys = [] := List.eq_nil_of_length_eq_zero (by omega)
      subst e
      exact Or.inl ⟨rfl, _, _, rfl⟩
theorem rowP_alloc {W : World} {v : Value} {ys : List Int} (h : Row W .u8 v ys) (o : Obj) : Row (W.alloc o) .u8 v ys := h.below ((Below.refl _ _).alloc (Nat.le_refl _) o)
/-- A row of bytes does not lie in a block that holds a header. -/
theorem rowP_hd {W : World} {b i : Nat} {u v : Value} {ys : List Int} {a0 a1 a5 a6 a7 : Int} {c2 c3 c4 : Option Addr} {n2 n3 n4 p2 p3 p4 : Nat} {t : TypeId} (h : Row W .u8 v ys)
    (hb : W.heap[b]? = some (.cells #[.int .i64 a0, .int .i64 a1, .slice c2 n2 p2, .slice c3 n3 p3, .slice c4 n4 p4, .int .i64 a5, .int .i64 a6, .int .i64 a7] t (0, 0))) : Row (W.setCell ⟨b, i, none⟩ u) .u8 v ys := by
  rcases h with h | ⟨q, off, cap, rfl, hq, hcap, hc⟩
  · exact Or.inl h
  · by_cases h0 : 0 < ys.length
    · have hne : q ≠ b := by
        intro e
        subst e
        have h1 := hc 0 h0
        rw [Nat.add_zero, bk_cell hb off] at h1
        match off, h1 with
        | 0, h1 => simp at h1
        | 1, h1 => simp at h1
        | 2, h1 => simp at h1
        | 3, h1 => simp at h1
        | 4, h1 => simp at h1
        | 5, h1 => simp at h1
        | 6, h1 => simp at h1
        | 7, h1 => simp at h1
        | o + 8, h1 => simp at h1
      refine Or.inr ⟨q, off, cap, rfl, by simpa [World.setCell] using hq, hcap, fun j hj => ?_⟩
      have e : (W.setCell ⟨b, i, none⟩ u).heap[q]? = W.heap[q]? := Below.heap_setCell _ _ _ _ (fun e => hne (by rw [e]))
      have e2 : (W.setCell ⟨b, i, none⟩ u).cell? ⟨q, off + j, none⟩ = W.cell? ⟨q, off + j, none⟩ := by simp only [World.cell?, e]
      rw [e2]
      exact hc j hj
    · have e : ys = [] := List.eq_nil_of_length_eq_zero (by omega)
      subst e
      exact Or.inl ⟨rfl, _, _, rfl⟩
theorem hc8 {W : World} {b : Nat} {x0 x1 x2 x3 x4 x5 x6 x7 : Value} {t : TypeId} (h : W.heap[b]? = some (.cells #[x0, x1, x2, x3, x4, x5, x6, x7] t (0, 0))) :
    W.cell? ⟨b, 0, none⟩ = some x0 ∧ W.cell? ⟨b, 1, none⟩ = some x1 ∧ W.cell? ⟨b, 2, none⟩ = some x2 ∧ W.cell? ⟨b, 3, none⟩ = some x3 ∧ W.cell? ⟨b, 4, none⟩ = some x4 ∧ W.cell? ⟨b, 5, none⟩ = some x5 ∧ W.cell? ⟨b, 6, none⟩ = some x6 ∧ W.cell? ⟨b, 7, none⟩ = some x7 := by
  refine ⟨?_, ?_, ?_, ?_, ?_, ?_, ?_, ?_⟩ <;> simp [World.cell?, h]
theorem hf8 {W : World} {b : Nat} {x0 x1 x2 x3 x4 x5 x6 x7 : Value} {t : TypeId} (h : W.heap[b]? = some (.cells #[x0, x1, x2, x3, x4, x5, x6, x7] t (0, 0))) :
    W.frozen? ⟨b, 0, none⟩ = false ∧ W.frozen? ⟨b, 1, none⟩ = false ∧ W.frozen? ⟨b, 2, none⟩ = false ∧ W.frozen? ⟨b, 3, none⟩ = false ∧ W.frozen? ⟨b, 4, none⟩ = false ∧ W.frozen? ⟨b, 5, none⟩ = false ∧ W.frozen? ⟨b, 6, none⟩ = false ∧ W.frozen? ⟨b, 7, none⟩ = false :=
  ⟨bk_free h 0, bk_free h 1, bk_free h 2, bk_free h 3, bk_free h 4, bk_free h 5, bk_free h 6, bk_free h 7⟩
theorem rowP_st8 {W : World} {b : Nat} {v : Value} {ys : List Int} {a0 a1 a5 a6 a7 x0 x1 x5 x6 x7 : Int} {c2 c3 c4 d2 d3 d4 : Option Addr} {n2 n3 n4 p2 p3 p4 m2 m3 m4 q2 q3 q4 : Nat} {t : TypeId} (h : Row W .u8 v ys)
    (hb : W.heap[b]? = some (.cells #[.int .i64 a0, .int .i64 a1, .slice c2 n2 p2, .slice c3 n3 p3, .slice c4 n4 p4, .int .i64 a5, .int .i64 a6, .int .i64 a7] t (0, 0))) :
    Row ((((((((W.setCell ⟨b, 0, none⟩ (.int .i64 x0)).setCell ⟨b, 1, none⟩ (.int .i64 x1)).setCell ⟨b, 2, none⟩ (.slice d2 m2 q2)).setCell ⟨b, 3, none⟩ (.slice d3 m3 q3)).setCell ⟨b, 4, none⟩ (.slice d4 m4 q4)).setCell ⟨b, 5, none⟩ (.int .i64 x5)).setCell ⟨b, 6, none⟩ (.int .i64 x6)).setCell ⟨b, 7, none⟩ (.int .i64 x7)) .u8 v ys := by
  have b0 := (bk_set hb 0 (.int .i64 x0)).trans (congrArg (fun x => some (Obj.cells x t (0, 0))) (show _ = #[.int .i64 x0, .int .i64 a1, .slice c2 n2 p2, .slice c3 n3 p3, .slice c4 n4 p4, .int .i64 a5, .int .i64 a6, .int .i64 a7] by simp))
  have b1 := (bk_set b0 1 (.int .i64 x1)).trans (congrArg (fun x => some (Obj.cells x t (0, 0))) (show _ = #[.int .i64 x0, .int .i64 x1, .slice c2 n2 p2, .slice c3 n3 p3, .slice c4 n4 p4, .int .i64 a5, .int .i64 a6, .int .i64 a7] by simp))
  have b2 := (bk_set b1 2 (.slice d2 m2 q2)).trans (congrArg (fun x => some (Obj.cells x t (0, 0))) (show _ = #[.int .i64 x0, .int .i64 x1, .slice d2 m2 q2, .slice c3 n3 p3, .slice c4 n4 p4, .int .i64 a5, .int .i64 a6, .int .i64 a7] by simp))
  have b3 := (bk_set b2 3 (.slice d3 m3 q3)).trans (congrArg (fun x => some (Obj.cells x t (0, 0))) (show _ = #[.int .i64 x0, .int .i64 x1, .slice d2 m2 q2, .slice d3 m3 q3, .slice c4 n4 p4, .int .i64 a5, .int .i64 a6, .int .i64 a7] by simp))
  have b4 := (bk_set b3 4 (.slice d4 m4 q4)).trans (congrArg (fun x => some (Obj.cells x t (0, 0))) (show _ = #[.int .i64 x0, .int .i64 x1, .slice d2 m2 q2, .slice d3 m3 q3, .slice d4 m4 q4, .int .i64 a5, .int .i64 a6, .int .i64 a7] by simp))
  have b5 := (bk_set b4 5 (.int .i64 x5)).trans (congrArg (fun x => some (Obj.cells x t (0, 0))) (show _ = #[.int .i64 x0, .int .i64 x1, .slice d2 m2 q2, .slice d3 m3 q3, .slice d4 m4 q4, .int .i64 x5, .int .i64 a6, .int .i64 a7] by simp))
  have b6 := (bk_set b5 6 (.int .i64 x6)).trans (congrArg (fun x => some (Obj.cells x t (0, 0))) (show _ = #[.int .i64 x0, .int .i64 x1, .slice d2 m2 q2, .slice d3 m3 q3, .slice d4 m4 q4, .int .i64 x5, .int .i64 x6, .int .i64 a7] by simp))
  exact rowP_hd (rowP_hd (rowP_hd (rowP_hd (rowP_hd (rowP_hd (rowP_hd (rowP_hd h hb) b0) b1) b2) b3) b4) b5) b6
abbrev hdz : Obj := .cells #[.int .i64 0, .int .i64 0, .slice none 0 0, .slice none 0 0, .slice none 0 0, .int .i64 0, .int .i64 0, .int .i64 0] 24
theorem infoH8 : (Tryz.prog.info? 24).map (·.size) = some 8 := by kernel_rfl
theorem blk_drawn {W W' : World} {g b : Nat} {o : Obj} (h : W.heap[b]? = some o) (gr : W.grownBy W' (some g)) (hb : b ≠ g) : W'.heap[b]? = some o :=
  (gr.block b (Array.getElem?_eq_some_iff.1 h).1 (fun e => hb (Option.some.inj e))).trans h
theorem blk_alloc {W : World} {b : Nat} {o : Obj} (h : W.heap[b]? = some o) (o2 : Obj) : (W.alloc o2).heap[b]? = some o :=
  (Below.heap_alloc _ _ _ (Array.getElem?_eq_some_iff.1 h).1).trans h
theorem blk_off {W : World} {b r i : Nat} {u : Value} {o : Obj} (h : W.heap[b]? = some o) (hb : b ≠ r) : (W.setCell ⟨r, i, none⟩ u).heap[b]? = some o :=
  (Below.heap_setCell _ _ _ _ (fun e => hb (by rw [e]))).trans h

theorem nextD (g : Nat) (c : Value) (xs : List Int) (p n : Int) (W : World) (h : Dr W g c xs p) (hp : p ≤ 1000000) (h1 : 1 ≤ n) (h2 : n ≤ 2147483648) :
    Calls Tryz.prog 27 #[.pointer (some ⟨g, 0, none⟩), .int .i64 n] W fun e w' => ∃ k : Int, e = .returned (.int .i64 k) ∧ 0 ≤ k ∧ k < n ∧ Dr w' g c xs (p + 3) ∧ W.grownBy w' (some g) := by
  obtain ⟨l, s, hd, hs⟩ := h
  refine (nextC g c xs n s W hd (by omega) h1 h2).mono ?_
  rintro e w' ⟨rfl, d, gr⟩
  have b := nextV_bd xs n s h1
  have q := nextS_pos xs n s
  exact ⟨_, rfl, b.1, b.2, ⟨l, _, d, by omega⟩, gr⟩
theorem bytesD (g : Nat) (c : Value) (xs : List Int) (p : Int) (k : Int) (W : World) (h : Dr W g c xs p) (hp : p ≤ 1000000) (h0 : 0 ≤ k) (h1 : k ≤ 1000) :
    Calls Tryz.prog 26 #[.pointer (some ⟨g, 0, none⟩), .int .i64 k] W fun e w' => ∃ ao cap ys, e = .returned (.slice ao ys.length cap) ∧ Row w' .u8 (.slice ao ys.length cap) ys ∧ (ys.length : Int) = k ∧ Bytes ys ∧ Dr w' g c xs (p + 1000) ∧ W.grownBy w' (some g) := by
  have hgl := h.lt
  obtain ⟨l, s, hd, hs⟩ := h
  obtain ⟨n, rfl⟩ := Int.eq_ofNat_of_zero_le h0
  refine (bytesC g c xs s n W hd (fun b off m cap a e => by have := l b off m cap a e; omega) (by omega) (by omega)).mono ?_
  rintro e w' ⟨r, rfl, o, d, gr⟩
  have q := bysS_pos xs s n
  have R : Row w' .u8 r (bysV xs s n) := by
    have o' : w'.ownsRow W.heap.size 5 1 r (bysV xs s n).length ((bysV xs s n).map (Value.int .u8)) := by rw [bysV_length]; exact o
    exact row_of_owns o'
  obtain ⟨ao, cap, rfl⟩ := R.form
  exact ⟨ao, cap, bysV xs s n, rfl, R, by rw [bysV_length], bysV_bytes xs s n hd.bytes, ⟨l, _, d, by omega⟩, gr⟩
theorem chanceD (g : Nat) (c : Value) (xs : List Int) (p n : Int) (W : World) (h : Dr W g c xs p) (hp : p ≤ 1000000) (h1 : 1 ≤ n) (h2 : n ≤ 2147483648) :
    Calls Tryz.prog 25 #[.pointer (some ⟨g, 0, none⟩), .int .i64 n] W fun e w' => ∃ k : Bool, e = .returned (.bool k) ∧ Dr w' g c xs (p + 3) ∧ W.grownBy w' (some g) := by
  obtain ⟨l, s, hd, hs⟩ := h
  refine (chanceC g c xs n s W hd (by omega) h1 h2).mono ?_
  rintro e w' ⟨rfl, d, gr⟩
  have q := nextS_pos xs n s
  exact ⟨_, rfl, ⟨l, _, d, by omega⟩, gr⟩
theorem numberD (g : Nat) (c : Value) (xs : List Int) (p : Int) (W : World) (h : Dr W g c xs p) (hp : p ≤ 1000000) :
    Calls Tryz.prog 51 #[.pointer (some ⟨g, 0, none⟩)] W fun e w' => ∃ k : Int, e = .returned (.int .i64 k) ∧ Dr w' g c xs (p + 9) ∧ W.grownBy w' (some g) := by
  obtain ⟨l, s, hd, hs⟩ := h
  refine (numberC g c xs s W hd (by omega)).mono ?_
  rintro e w' ⟨rfl, d, gr⟩
  have q := numS_pos xs s
  exact ⟨_, rfl, ⟨l, _, d, by omega⟩, gr⟩
set_option maxHeartbeats 1000000 in
theorem cidD (g : Nat) (c : Value) (xs : List Int) (p : Int) (W : World) (h : Dr W g c xs p) (hp : p ≤ 900000) :
    Calls Tryz.prog 39 #[.pointer (some ⟨g, 0, none⟩)] W fun e w' => ∃ ao cap ys, e = .returned (.slice ao ys.length cap) ∧ Row w' .u8 (.slice ao ys.length cap) ys ∧ ys.length ≤ 8 ∧ Bytes ys ∧ Dr w' g c xs (p + 1003) ∧ W.grownBy w' (some g) := by
  have H0 : Hid _ := And.intro h hp
  clear h hp
  go_enter Tryz.func39, Tryz.ntmps39
  go_wp2_with fail
  go_at_call 27
  refine (nextD g c xs p 9 W H0.out.1 (by have := H0.out.2; omega) (by decide) (by decide)).mono ?_
  rintro e w1 ⟨k, rfl, k0, k1, D1, G1⟩
  have H1 : Hid _ := And.intro D1 (And.intro G1 (And.intro k0 k1))
  clear D1 G1 k0 k1
  go_wp2_with fail
  go_at_call 26
  refine (bytesD g c xs (p + 3) k w1 H1.out.1 (by have := H0.out.2; omega) H1.out.2.2.1 (by have := H1.out.2.2.2; omega)).mono ?_
  rintro e w2 ⟨ao, cap, ys, rfl, R2, l2, B2, D2, G2⟩
  have H2 : Hid _ := And.intro R2 (And.intro (show ys.length ≤ 8 by have := H1.out.2.2.2; omega) (And.intro B2 (And.intro (D2.mono (q := p + 1003) (by omega)) (grown_trans H1.out.2.1 G2))))
  clear R2 l2 B2 D2 G2
  go_wp2
  go_ret
  exact ⟨ao, cap, ys, rfl, H2.out.1, H2.out.2.1, H2.out.2.2.1, H2.out.2.2.2.1, H2.out.2.2.2.2⟩

set_option maxRecDepth 20000 in
set_option maxHeartbeats 4000000 in
theorem drRetryD (g : Nat) (c : Value) (xs : List Int) (p : Int) (W : World) (h : Dr W g c xs p) (hp : p ≤ 800000) :
    Calls Tryz.prog 24 #[.pointer (some ⟨g, 0, none⟩)] W fun e w' => ∃ v h8, e = .returned v ∧ HRow w' v h8 ∧ h8.bytes ∧ h8.small 66 ∧ Dr w' g c xs (p + 4000) ∧ W.grownBy w' (some g) := by
  have gl := h.lt
  have H0 : Hid _ := And.intro (h.alloc hdz) (And.intro (heap_alloc_new W hdz) (And.intro (World.grownBy_alloc W hdz (some g)) hp))
  clear h hp
  go_enter Tryz.func24, Tryz.ntmps24
  go_wp2_with fail
  go_at_call 27
  refine (nextD g c xs p 5 _ H0.out.1 (by have := H0.out.2.2.2; omega) (by decide) (by decide)).mono ?_
  rintro e w1 ⟨k, rfl, k0, k1, D1, G1⟩
  have l1 : IntKind.i64.wrap (1 + k) = 1 + k := by rw [IntKind.wrap_i64]; omega
  have H1 : Hid _ := And.intro D1 (And.intro (blk_drawn H0.out.2.1 G1 (by omega)) (grown_trans H0.out.2.2.1 G1))
  clear D1 G1 k0 k1
  go_wp2_with fail
  go_at_call 39
  refine (cidD g c xs (p + 3) w1 H1.out.1 (by have := H0.out.2.2.2; omega)).mono ?_
  rintro e w2 ⟨a2, p2, d, rfl, R2, l2, B2, D2, G2⟩
  have H2 : Hid _ := And.intro D2 (And.intro (blk_drawn H1.out.2.1 G2 (by omega)) (And.intro (grown_trans H1.out.2.2 G2) (And.intro R2 (And.intro l2 B2))))
  clear R2 l2 B2 D2 G2
  go_wp2_with fail
  go_at_call 39
  refine (cidD g c xs (p + 3 + 1003) w2 H2.out.1 (by have := H0.out.2.2.2; omega)).mono ?_
  rintro e w3 ⟨a3, p3, s, rfl, R3, l3, B3, D3, G3⟩
  have H3 : Hid _ := And.intro D3 (And.intro (blk_drawn H2.out.2.1 G3 (by omega)) (And.intro (grown_trans H2.out.2.2.1 G3) (And.intro (H2.out.1.row H2.out.2.2.2.1 G3) (And.intro R3 (And.intro l3 B3)))))
  clear R3 l3 B3 D3 G3
  go_wp2_with fail
  go_at_call 27
  refine (nextD g c xs (p + 3 + 1003 + 1003) 64 w3 H3.out.1 (by have := H0.out.2.2.2; omega) (by decide) (by decide)).mono ?_
  rintro e w4 ⟨k', rfl, k0, k1, D4, G4⟩
  have l4 : IntKind.i64.wrap (1 + k') = 1 + k' := by rw [IntKind.wrap_i64]; omega
  have H4 : Hid _ := And.intro D4 (And.intro (blk_drawn H3.out.2.1 G4 (by omega)) (And.intro (grown_trans H3.out.2.2.1 G4) (And.intro (H3.out.1.row H3.out.2.2.2.1 G4) (And.intro (H3.out.1.row H3.out.2.2.2.2.1 G4) (And.intro k0 k1)))))
  clear D4 G4 k0 k1
  go_wp2_with fail
  go_at_call 26
  refine (bytesD g c xs (p + 3 + 1003 + 1003 + 3) (1 + k') w4 H4.out.1 (by have := H0.out.2.2.2; omega) (by have := H4.out.2.2.2.2.2.1; omega) (by have := H4.out.2.2.2.2.2.2; omega)).mono ?_
  rintro e w5 ⟨a4, p4, t, rfl, R5, l5, B5, D5, G5⟩
  have Z5 := blk_drawn H4.out.2.1 G5 (by omega)
  obtain ⟨u0, u1, u2, u3, u4, u5, u6, u7⟩ := hc8 Z5
  obtain ⟨f0, f1, f2, f3, f4, f5, f6, f7⟩ := hf8 Z5
  have H5 : Hid _ := And.intro (D5.mono (q := p + 4000) (by omega)) (And.intro Z5 (And.intro (grown_trans H4.out.2.2.1 G5) (And.intro (H4.out.1.row H4.out.2.2.2.1 G5) (And.intro (H4.out.1.row H4.out.2.2.2.2.1 G5) (And.intro R5 (And.intro (show t.length ≤ 66 by have := H4.out.2.2.2.2.2.2; omega) B5))))))
  clear R5 l5 B5 D5 G5 Z5
  go_wp2
  try simp only [Exit.inBlock, Exit.then]
  refine bodyPost_ret (v := .agg #[.int .i64 3, .int .i64 (1 + k), .slice a2 d.length p2, .slice a3 s.length p3, .slice a4 t.length p4, .int .i64 0, .int .i64 0, .int .i64 0]) ?_ rfl ?_
  · refine results_cell_row (t := 24) rfl _ _ W.heap.size _ (fr := (0, 0)) _ rfl ?_ Tryz.underlying24 rfl infoH8
    rw [bk_set (bk_set (bk_set (bk_set (bk_set (bk_set (bk_set (bk_set H5.out.2.1 0 _) 1 _) 2 _) 3 _) 4 _) 5 _) 6 _) 7 _]
    rfl
  · have Zs := H5.out.2.1
    refine ⟨_, ⟨3, 1 + k, d, s, t, 0, 0, 0⟩, rfl, ⟨_, _, _, rfl, ?_, ?_, ?_⟩, ⟨H2.out.2.2.2.2.2, H3.out.2.2.2.2.2.2, H5.out.2.2.2.2.2.2.2⟩, ⟨by have := H2.out.2.2.2.2.1; show d.length ≤ 66; omega, by have := H3.out.2.2.2.2.2.1; show s.length ≤ 66; omega, H5.out.2.2.2.2.2.2.1⟩, ?_, ?_⟩
    · exact rowP_st8 H5.out.2.2.2.1 Zs
    · exact rowP_st8 H5.out.2.2.2.2.1 Zs
    · exact rowP_st8 H5.out.2.2.2.2.2.1 Zs
    · exact (((((((H5.out.1.set gl).set gl).set gl).set gl).set gl).set gl).set gl).set gl
    · exact grownP_set (grownP_set (grownP_set (grownP_set (grownP_set (grownP_set (grownP_set (grownP_set H5.out.2.2.1 (Nat.le_refl _)) (Nat.le_refl _)) (Nat.le_refl _)) (Nat.le_refl _)) (Nat.le_refl _)) (Nat.le_refl _)) (Nat.le_refl _)) (Nat.le_refl _)

set_option maxRecDepth 20000 in
set_option maxHeartbeats 4000000 in
theorem bent_0 (g : Nat) (c : Value) (xs : List Int) (p : Int) (a0 a1 a5 a6 a7 : Int) (c2 c3 c4 : Option Addr) (n2 n3 n4 p2 p3 p4 : Nat) (d s t : List Int) (k : Int) (W : World) (h : Dr W g c xs p) (hp : p ≤ 800000) (r2 : Row W .u8 (.slice c2 n2 p2) d) (r3 : Row W .u8 (.slice c3 n3 p3) s) (r4 : Row W .u8 (.slice c4 n4 p4) t) (e2 : d.length = n2) (e3 : s.length = n3) (e4 : t.length = n4) (bd : Bytes d) (bs : Bytes s) (bt : Bytes t) (s2 : n2 ≤ 66) (s3 : n3 ≤ 66) (s4 : n4 ≤ 66) (hk : k = 0)
    (hn : Calls Tryz.prog 27 #[.pointer (some ⟨g, 0, none⟩), .int .i64 20] ((W.alloc (.cells #[.int .i64 a0, .int .i64 a1, .slice c2 n2 p2, .slice c3 n3 p3, .slice c4 n4 p4, .int .i64 a5, .int .i64 a6, .int .i64 a7] 24)).alloc hdz) fun e w' => e = .returned (.int .i64 k) ∧ Dr w' g c xs (p + 3) ∧ ((W.alloc (.cells #[.int .i64 a0, .int .i64 a1, .slice c2 n2 p2, .slice c3 n3 p3, .slice c4 n4 p4, .int .i64 a5, .int .i64 a6, .int .i64 a7] 24)).alloc hdz).grownBy w' (some g)) :
    Calls Tryz.prog 23 #[.pointer (some ⟨g, 0, none⟩), .agg #[.int .i64 a0, .int .i64 a1, .slice c2 n2 p2, .slice c3 n3 p3, .slice c4 n4 p4, .int .i64 a5, .int .i64 a6, .int .i64 a7]] W fun e w' => ∃ v h8, e = .returned v ∧ HRow w' v h8 ∧ h8.bytes ∧ h8.small 66 ∧ Dr w' g c xs (p + 2000) ∧ W.grownBy w' (some g) := by
  have gl := h.lt
  subst hk
  have ne1 : W.heap.size ≠ W.heap.size + 1 := by omega
  have ne2 : W.heap.size + 1 ≠ W.heap.size := by omega
  have AB : Below W.heap.size W (W.alloc (.cells #[.int .i64 a0, .int .i64 a1, .slice c2 n2 p2, .slice c3 n3 p3, .slice c4 n4 p4, .int .i64 a5, .int .i64 a6, .int .i64 a7] 24)) := (Below.refl _ _).alloc (Nat.le_refl _) _
  have A2 : Below W.heap.size W ((W.alloc (.cells #[.int .i64 a0, .int .i64 a1, .slice c2 n2 p2, .slice c3 n3 p3, .slice c4 n4 p4, .int .i64 a5, .int .i64 a6, .int .i64 a7] 24)).alloc hdz) := AB.alloc AB.size _
  have Z1 : ((W.alloc (.cells #[.int .i64 a0, .int .i64 a1, .slice c2 n2 p2, .slice c3 n3 p3, .slice c4 n4 p4, .int .i64 a5, .int .i64 a6, .int .i64 a7] 24)).alloc hdz).heap[W.heap.size]? = some (.cells #[.int .i64 a0, .int .i64 a1, .slice c2 n2 p2, .slice c3 n3 p3, .slice c4 n4 p4, .int .i64 a5, .int .i64 a6, .int .i64 a7] 24 (0, 0)) := by
    rw [Below.heap_alloc _ _ _ (by simp)]; exact heap_alloc_new W _
  have Z2 : ((W.alloc (.cells #[.int .i64 a0, .int .i64 a1, .slice c2 n2 p2, .slice c3 n3 p3, .slice c4 n4 p4, .int .i64 a5, .int .i64 a6, .int .i64 a7] 24)).alloc hdz).heap[W.heap.size + 1]? = some hdz := by
    have := heap_alloc_new (W.alloc (.cells #[.int .i64 a0, .int .i64 a1, .slice c2 n2 p2, .slice c3 n3 p3, .slice c4 n4 p4, .int .i64 a5, .int .i64 a6, .int .i64 a7] 24)) hdz
    rwa [World.size_alloc] at this
  have H0 : Hid _ := And.intro ((h.alloc (.cells #[.int .i64 a0, .int .i64 a1, .slice c2 n2 p2, .slice c3 n3 p3, .slice c4 n4 p4, .int .i64 a5, .int .i64 a6, .int .i64 a7] 24)).alloc hdz) (And.intro Z1 (And.intro Z2 (And.intro (show W.grownBy ((W.alloc (.cells #[.int .i64 a0, .int .i64 a1, .slice c2 n2 p2, .slice c3 n3 p3, .slice c4 n4 p4, .int .i64 a5, .int .i64 a6, .int .i64 a7] 24)).alloc hdz) (some g) from ⟨A2.os, A2.tape, A2.output, A2.size, fun k hk _ => A2.block k hk⟩) (And.intro (r2.below A2) (And.intro (r3.below A2) (r4.below A2))))))
  have HP : Hid _ := And.intro hn (And.intro hp (And.intro bd (And.intro bs (And.intro bt (And.intro e2 (And.intro e3 (And.intro e4 (And.intro s2 (And.intro s3 s4)))))))))
  clear AB A2 Z1 Z2 h r2 r3 r4 hn hp bd bs bt e2 e3 e4 s2 s3 s4
  go_enter Tryz.func23, Tryz.ntmps23
  go_wp2_with fail
  go_at_call 27
  refine HP.out.1.mono ?_
  rintro e w1 ⟨rfl, D1, G1⟩
  have H1 : Hid _ := And.intro D1 (And.intro (blk_drawn H0.out.2.1 G1 (by omega)) (And.intro (blk_drawn H0.out.2.2.1 G1 (by omega)) (And.intro (grown_trans H0.out.2.2.2.1 G1) (And.intro (H0.out.1.row H0.out.2.2.2.2.1 G1) (And.intro (H0.out.1.row H0.out.2.2.2.2.2.1 G1) (H0.out.1.row H0.out.2.2.2.2.2.2 G1))))))
  clear D1 G1
  go_wp2_with fail
  go_at_call 27
  refine (nextD g c xs (p + 3) 8 w1 H1.out.1 (by have := HP.out.2.1; omega) (by decide) (by decide)).mono ?_
  rintro e w2 ⟨k2, rfl, k0, k1, D2, G2⟩
  have l2 : IntKind.i64.wrap (k2 - 1) = k2 - 1 := by rw [IntKind.wrap_i64]; omega
  have H2 : Hid _ := And.intro D2 (And.intro (blk_drawn H1.out.2.1 G2 (by omega)) (And.intro (blk_drawn H1.out.2.2.1 G2 (by omega)) (And.intro (grown_trans H1.out.2.2.2.1 G2) (And.intro (H1.out.1.row H1.out.2.2.2.2.1 G2) (And.intro (H1.out.1.row H1.out.2.2.2.2.2.1 G2) (H1.out.1.row H1.out.2.2.2.2.2.2 G2))))))
  clear D2 G2 k0 k1
  obtain ⟨y0, y1, y2, y3, y4, y5, y6, y7⟩ := hc8 H2.out.2.1
  obtain ⟨u0, u1, u2, u3, u4, u5, u6, u7⟩ := hc8 H2.out.2.2.1
  obtain ⟨f0, f1, f2, f3, f4, f5, f6, f7⟩ := hf8 H2.out.2.2.1
  have fb := bk_free H2.out.2.1 0
  go_wp2
  try simp only [Exit.inBlock, Exit.then]
  refine bodyPost_ret (v := .agg #[.int .i64 (k2 - 1), .int .i64 a1, .slice c2 n2 p2, .slice c3 n3 p3, .slice c4 n4 p4, .int .i64 a5, .int .i64 a6, .int .i64 a7]) ?_ rfl ?_
  · refine results_cell_row (t := 24) rfl _ _ (W.heap.size + 1) _ (fr := (0, 0)) _ rfl ?_ Tryz.underlying24 rfl infoH8
    rw [bk_set (bk_set (bk_set (bk_set (bk_set (bk_set (bk_set (bk_set (blk_off (r := W.heap.size) (i := 0) (u := .int .i64 (k2 - 1)) H2.out.2.2.1 ne2) 0 _) 1 _) 2 _) 3 _) 4 _) 5 _) 6 _) 7 _]
    rfl
  · obtain ⟨e2, e3, e4⟩ : d.length = n2 ∧ s.length = n3 ∧ t.length = n4 := ⟨HP.out.2.2.2.2.2.1, HP.out.2.2.2.2.2.2.1, HP.out.2.2.2.2.2.2.2.1⟩
    have s2 := HP.out.2.2.2.2.2.2.2.2.1
    have s3 := HP.out.2.2.2.2.2.2.2.2.2.1
    have s4 := HP.out.2.2.2.2.2.2.2.2.2.2
    refine ⟨_, ⟨(k2 - 1), a1, d, s, t, a5, a6, a7⟩, rfl, ⟨_, _, _, rfl, ?_, ?_, ?_⟩, ⟨HP.out.2.2.1, HP.out.2.2.2.1, HP.out.2.2.2.2.1⟩, ⟨(by show d.length ≤ 66; omega), (by show s.length ≤ 66; omega), (by show t.length ≤ 66; omega)⟩, ?_, ?_⟩
    · exact rowP_st8 (rowP_hd (i := 0) (u := .int .i64 (k2 - 1)) H2.out.2.2.2.2.1 H2.out.2.1) (blk_off (r := W.heap.size) (i := 0) (u := .int .i64 (k2 - 1)) H2.out.2.2.1 ne2)
    · exact rowP_st8 (rowP_hd (i := 0) (u := .int .i64 (k2 - 1)) H2.out.2.2.2.2.2.1 H2.out.2.1) (blk_off (r := W.heap.size) (i := 0) (u := .int .i64 (k2 - 1)) H2.out.2.2.1 ne2)
    · exact rowP_st8 (rowP_hd (i := 0) (u := .int .i64 (k2 - 1)) H2.out.2.2.2.2.2.2 H2.out.2.1) (blk_off (r := W.heap.size) (i := 0) (u := .int .i64 (k2 - 1)) H2.out.2.2.1 ne2)
    · exact ((((((((((H2.out.1.mono (q := p + 2000) (by omega)).set (i := 0) (u := .int .i64 (k2 - 1)) gl).set (b := W.heap.size + 1) (by omega)).set (b := W.heap.size + 1) (by omega)).set (b := W.heap.size + 1) (by omega)).set (b := W.heap.size + 1) (by omega)).set (b := W.heap.size + 1) (by omega)).set (b := W.heap.size + 1) (by omega)).set (b := W.heap.size + 1) (by omega)).set (b := W.heap.size + 1) (by omega))
    · exact (grownP_set (grownP_set (grownP_set (grownP_set (grownP_set (grownP_set (grownP_set (grownP_set (grownP_set (b := W.heap.size) (i := 0) (u := .int .i64 (k2 - 1)) H2.out.2.2.2.1 (Nat.le_refl _)) (Nat.le_succ _)) (Nat.le_succ _)) (Nat.le_succ _)) (Nat.le_succ _)) (Nat.le_succ _)) (Nat.le_succ _)) (Nat.le_succ _)) (Nat.le_succ _))
set_option maxRecDepth 20000 in
set_option maxHeartbeats 4000000 in
theorem bent_1 (g : Nat) (c : Value) (xs : List Int) (p : Int) (a0 a1 a5 a6 a7 : Int) (c2 c3 c4 : Option Addr) (n2 n3 n4 p2 p3 p4 : Nat) (d s t : List Int) (k : Int) (W : World) (h : Dr W g c xs p) (hp : p ≤ 800000) (r2 : Row W .u8 (.slice c2 n2 p2) d) (r3 : Row W .u8 (.slice c3 n3 p3) s) (r4 : Row W .u8 (.slice c4 n4 p4) t) (e2 : d.length = n2) (e3 : s.length = n3) (e4 : t.length = n4) (bd : Bytes d) (bs : Bytes s) (bt : Bytes t) (s2 : n2 ≤ 66) (s3 : n3 ≤ 66) (s4 : n4 ≤ 66) (hk : k = 1)
    (hn : Calls Tryz.prog 27 #[.pointer (some ⟨g, 0, none⟩), .int .i64 20] ((W.alloc (.cells #[.int .i64 a0, .int .i64 a1, .slice c2 n2 p2, .slice c3 n3 p3, .slice c4 n4 p4, .int .i64 a5, .int .i64 a6, .int .i64 a7] 24)).alloc hdz) fun e w' => e = .returned (.int .i64 k) ∧ Dr w' g c xs (p + 3) ∧ ((W.alloc (.cells #[.int .i64 a0, .int .i64 a1, .slice c2 n2 p2, .slice c3 n3 p3, .slice c4 n4 p4, .int .i64 a5, .int .i64 a6, .int .i64 a7] 24)).alloc hdz).grownBy w' (some g)) :
    Calls Tryz.prog 23 #[.pointer (some ⟨g, 0, none⟩), .agg #[.int .i64 a0, .int .i64 a1, .slice c2 n2 p2, .slice c3 n3 p3, .slice c4 n4 p4, .int .i64 a5, .int .i64 a6, .int .i64 a7]] W fun e w' => ∃ v h8, e = .returned v ∧ HRow w' v h8 ∧ h8.bytes ∧ h8.small 66 ∧ Dr w' g c xs (p + 2000) ∧ W.grownBy w' (some g) := by
  have gl := h.lt
  subst hk
  have ne1 : W.heap.size ≠ W.heap.size + 1 := by omega
  have ne2 : W.heap.size + 1 ≠ W.heap.size := by omega
  have AB : Below W.heap.size W (W.alloc (.cells #[.int .i64 a0, .int .i64 a1, .slice c2 n2 p2, .slice c3 n3 p3, .slice c4 n4 p4, .int .i64 a5, .int .i64 a6, .int .i64 a7] 24)) := (Below.refl _ _).alloc (Nat.le_refl _) _
  have A2 : Below W.heap.size W ((W.alloc (.cells #[.int .i64 a0, .int .i64 a1, .slice c2 n2 p2, .slice c3 n3 p3, .slice c4 n4 p4, .int .i64 a5, .int .i64 a6, .int .i64 a7] 24)).alloc hdz) := AB.alloc AB.size _
  have Z1 : ((W.alloc (.cells #[.int .i64 a0, .int .i64 a1, .slice c2 n2 p2, .slice c3 n3 p3, .slice c4 n4 p4, .int .i64 a5, .int .i64 a6, .int .i64 a7] 24)).alloc hdz).heap[W.heap.size]? = some (.cells #[.int .i64 a0, .int .i64 a1, .slice c2 n2 p2, .slice c3 n3 p3, .slice c4 n4 p4, .int .i64 a5, .int .i64 a6, .int .i64 a7] 24 (0, 0)) := by
    rw [Below.heap_alloc _ _ _ (by simp)]; exact heap_alloc_new W _
  have Z2 : ((W.alloc (.cells #[.int .i64 a0, .int .i64 a1, .slice c2 n2 p2, .slice c3 n3 p3, .slice c4 n4 p4, .int .i64 a5, .int .i64 a6, .int .i64 a7] 24)).alloc hdz).heap[W.heap.size + 1]? = some hdz := by
    have := heap_alloc_new (W.alloc (.cells #[.int .i64 a0, .int .i64 a1, .slice c2 n2 p2, .slice c3 n3 p3, .slice c4 n4 p4, .int .i64 a5, .int .i64 a6, .int .i64 a7] 24)) hdz
    rwa [World.size_alloc] at this
  have H0 : Hid _ := And.intro ((h.alloc (.cells #[.int .i64 a0, .int .i64 a1, .slice c2 n2 p2, .slice c3 n3 p3, .slice c4 n4 p4, .int .i64 a5, .int .i64 a6, .int .i64 a7] 24)).alloc hdz) (And.intro Z1 (And.intro Z2 (And.intro (show W.grownBy ((W.alloc (.cells #[.int .i64 a0, .int .i64 a1, .slice c2 n2 p2, .slice c3 n3 p3, .slice c4 n4 p4, .int .i64 a5, .int .i64 a6, .int .i64 a7] 24)).alloc hdz) (some g) from ⟨A2.os, A2.tape, A2.output, A2.size, fun k hk _ => A2.block k hk⟩) (And.intro (r2.below A2) (And.intro (r3.below A2) (r4.below A2))))))
  have HP : Hid _ := And.intro hn (And.intro hp (And.intro bd (And.intro bs (And.intro bt (And.intro e2 (And.intro e3 (And.intro e4 (And.intro s2 (And.intro s3 s4)))))))))
  clear AB A2 Z1 Z2 h r2 r3 r4 hn hp bd bs bt e2 e3 e4 s2 s3 s4
  go_enter Tryz.func23, Tryz.ntmps23
  go_wp2_with fail
  go_at_call 27
  refine HP.out.1.mono ?_
  rintro e w1 ⟨rfl, D1, G1⟩
  have H1 : Hid _ := And.intro D1 (And.intro (blk_drawn H0.out.2.1 G1 (by omega)) (And.intro (blk_drawn H0.out.2.2.1 G1 (by omega)) (And.intro (grown_trans H0.out.2.2.2.1 G1) (And.intro (H0.out.1.row H0.out.2.2.2.2.1 G1) (And.intro (H0.out.1.row H0.out.2.2.2.2.2.1 G1) (H0.out.1.row H0.out.2.2.2.2.2.2 G1))))))
  clear D1 G1
  go_wp2_with fail
  go_at_call 27
  have H1a : Hid _ := And.intro (H1.out.1.alloc (.cells #[.int .i64 0, .int .i64 (-1), .int .i64 4294967296, .int .i64 1] 3)) (And.intro (blk_alloc H1.out.2.1 (.cells #[.int .i64 0, .int .i64 (-1), .int .i64 4294967296, .int .i64 1] 3)) (And.intro (blk_alloc H1.out.2.2.1 (.cells #[.int .i64 0, .int .i64 (-1), .int .i64 4294967296, .int .i64 1] 3)) (And.intro (grown_trans H1.out.2.2.2.1 (World.grownBy_alloc w1 (.cells #[.int .i64 0, .int .i64 (-1), .int .i64 4294967296, .int .i64 1] 3) (some g))) (And.intro (rowP_alloc H1.out.2.2.2.2.1 (.cells #[.int .i64 0, .int .i64 (-1), .int .i64 4294967296, .int .i64 1] 3)) (And.intro (rowP_alloc H1.out.2.2.2.2.2.1 (.cells #[.int .i64 0, .int .i64 (-1), .int .i64 4294967296, .int .i64 1] 3)) (And.intro (rowP_alloc H1.out.2.2.2.2.2.2 (.cells #[.int .i64 0, .int .i64 (-1), .int .i64 4294967296, .int .i64 1] 3)) (heap_alloc_new w1 (.cells #[.int .i64 0, .int .i64 (-1), .int .i64 4294967296, .int .i64 1] 3))))))))
  have z1 : W.heap.size + 2 ≤ w1.heap.size := by have := (Array.getElem?_eq_some_iff.1 H1.out.2.2.1).1; omega
  refine (nextD g c xs (p + 3) 4 _ H1a.out.1 (by have := HP.out.2.1; omega) (by decide) (by decide)).mono ?_
  rintro e w2 ⟨k2, rfl, k0, k1, D2, G2⟩
  obtain ⟨i, rfl⟩ := Int.eq_ofNat_of_zero_le k0
  have T2 := blk_drawn H1a.out.2.2.2.2.2.2.2 G2 (by omega)
  obtain ⟨tv, ct⟩ : ∃ tv : Int, w2.cell? ⟨w1.heap.size, i, none⟩ = some (.int .i64 tv) := by
    have hi : i < 4 := by omega
    rw [bk_cell T2 i]
    match i, hi with
    | 0, _ => exact ⟨_, rfl⟩
    | 1, _ => exact ⟨_, rfl⟩
    | 2, _ => exact ⟨_, rfl⟩
    | 3, _ => exact ⟨_, rfl⟩
  have hi4 : i < 4 := by omega
  have H2 : Hid _ := And.intro D2 (And.intro (blk_drawn H1a.out.2.1 G2 (by omega)) (And.intro (blk_drawn H1a.out.2.2.1 G2 (by omega)) (And.intro (grown_trans H1a.out.2.2.2.1 G2) (And.intro (H1a.out.1.row H1a.out.2.2.2.2.1 G2) (And.intro (H1a.out.1.row H1a.out.2.2.2.2.2.1 G2) (H1a.out.1.row H1a.out.2.2.2.2.2.2.1 G2))))))
  clear D2 G2 T2 k0 k1
  obtain ⟨y0, y1, y2, y3, y4, y5, y6, y7⟩ := hc8 H2.out.2.1
  obtain ⟨u0, u1, u2, u3, u4, u5, u6, u7⟩ := hc8 H2.out.2.2.1
  obtain ⟨f0, f1, f2, f3, f4, f5, f6, f7⟩ := hf8 H2.out.2.2.1
  have fb := bk_free H2.out.2.1 1
  go_wp2
  try simp only [Exit.inBlock, Exit.then]
  refine bodyPost_ret (v := .agg #[.int .i64 a0, .int .i64 tv, .slice c2 n2 p2, .slice c3 n3 p3, .slice c4 n4 p4, .int .i64 a5, .int .i64 a6, .int .i64 a7]) ?_ rfl ?_
  · refine results_cell_row (t := 24) rfl _ _ (W.heap.size + 1) _ (fr := (0, 0)) _ rfl ?_ Tryz.underlying24 rfl infoH8
    rw [bk_set (bk_set (bk_set (bk_set (bk_set (bk_set (bk_set (bk_set (blk_off (r := W.heap.size) (i := 1) (u := .int .i64 tv) H2.out.2.2.1 ne2) 0 _) 1 _) 2 _) 3 _) 4 _) 5 _) 6 _) 7 _]
    rfl
  · obtain ⟨e2, e3, e4⟩ : d.length = n2 ∧ s.length = n3 ∧ t.length = n4 := ⟨HP.out.2.2.2.2.2.1, HP.out.2.2.2.2.2.2.1, HP.out.2.2.2.2.2.2.2.1⟩
    have s2 := HP.out.2.2.2.2.2.2.2.2.1
    have s3 := HP.out.2.2.2.2.2.2.2.2.2.1
    have s4 := HP.out.2.2.2.2.2.2.2.2.2.2
    refine ⟨_, ⟨a0, tv, d, s, t, a5, a6, a7⟩, rfl, ⟨_, _, _, rfl, ?_, ?_, ?_⟩, ⟨HP.out.2.2.1, HP.out.2.2.2.1, HP.out.2.2.2.2.1⟩, ⟨(by show d.length ≤ 66; omega), (by show s.length ≤ 66; omega), (by show t.length ≤ 66; omega)⟩, ?_, ?_⟩
    · exact rowP_st8 (rowP_hd (i := 1) (u := .int .i64 tv) H2.out.2.2.2.2.1 H2.out.2.1) (blk_off (r := W.heap.size) (i := 1) (u := .int .i64 tv) H2.out.2.2.1 ne2)
    · exact rowP_st8 (rowP_hd (i := 1) (u := .int .i64 tv) H2.out.2.2.2.2.2.1 H2.out.2.1) (blk_off (r := W.heap.size) (i := 1) (u := .int .i64 tv) H2.out.2.2.1 ne2)
    · exact rowP_st8 (rowP_hd (i := 1) (u := .int .i64 tv) H2.out.2.2.2.2.2.2 H2.out.2.1) (blk_off (r := W.heap.size) (i := 1) (u := .int .i64 tv) H2.out.2.2.1 ne2)
    · exact ((((((((((H2.out.1.mono (q := p + 2000) (by omega)).set (i := 1) (u := .int .i64 tv) gl).set (b := W.heap.size + 1) (by omega)).set (b := W.heap.size + 1) (by omega)).set (b := W.heap.size + 1) (by omega)).set (b := W.heap.size + 1) (by omega)).set (b := W.heap.size + 1) (by omega)).set (b := W.heap.size + 1) (by omega)).set (b := W.heap.size + 1) (by omega)).set (b := W.heap.size + 1) (by omega))
    · exact (grownP_set (grownP_set (grownP_set (grownP_set (grownP_set (grownP_set (grownP_set (grownP_set (grownP_set (b := W.heap.size) (i := 1) (u := .int .i64 tv) H2.out.2.2.2.1 (Nat.le_refl _)) (Nat.le_succ _)) (Nat.le_succ _)) (Nat.le_succ _)) (Nat.le_succ _)) (Nat.le_succ _)) (Nat.le_succ _)) (Nat.le_succ _)) (Nat.le_succ _))
set_option maxRecDepth 20000 in
set_option maxHeartbeats 4000000 in
theorem bent_2 (g : Nat) (c : Value) (xs : List Int) (p : Int) (a0 a1 a5 a6 a7 : Int) (c2 c3 c4 : Option Addr) (n2 n3 n4 p2 p3 p4 : Nat) (d s t : List Int) (k : Int) (W : World) (h : Dr W g c xs p) (hp : p ≤ 800000) (r2 : Row W .u8 (.slice c2 n2 p2) d) (r3 : Row W .u8 (.slice c3 n3 p3) s) (r4 : Row W .u8 (.slice c4 n4 p4) t) (e2 : d.length = n2) (e3 : s.length = n3) (e4 : t.length = n4) (bd : Bytes d) (bs : Bytes s) (bt : Bytes t) (s2 : n2 ≤ 66) (s3 : n3 ≤ 66) (s4 : n4 ≤ 66) (hk : k = 2)
    (hn : Calls Tryz.prog 27 #[.pointer (some ⟨g, 0, none⟩), .int .i64 20] ((W.alloc (.cells #[.int .i64 a0, .int .i64 a1, .slice c2 n2 p2, .slice c3 n3 p3, .slice c4 n4 p4, .int .i64 a5, .int .i64 a6, .int .i64 a7] 24)).alloc hdz) fun e w' => e = .returned (.int .i64 k) ∧ Dr w' g c xs (p + 3) ∧ ((W.alloc (.cells #[.int .i64 a0, .int .i64 a1, .slice c2 n2 p2, .slice c3 n3 p3, .slice c4 n4 p4, .int .i64 a5, .int .i64 a6, .int .i64 a7] 24)).alloc hdz).grownBy w' (some g)) :
    Calls Tryz.prog 23 #[.pointer (some ⟨g, 0, none⟩), .agg #[.int .i64 a0, .int .i64 a1, .slice c2 n2 p2, .slice c3 n3 p3, .slice c4 n4 p4, .int .i64 a5, .int .i64 a6, .int .i64 a7]] W fun e w' => ∃ v h8, e = .returned v ∧ HRow w' v h8 ∧ h8.bytes ∧ h8.small 66 ∧ Dr w' g c xs (p + 2000) ∧ W.grownBy w' (some g) := by
  have gl := h.lt
  subst hk
  have ne1 : W.heap.size ≠ W.heap.size + 1 := by omega
  have ne2 : W.heap.size + 1 ≠ W.heap.size := by omega
  have AB : Below W.heap.size W (W.alloc (.cells #[.int .i64 a0, .int .i64 a1, .slice c2 n2 p2, .slice c3 n3 p3, .slice c4 n4 p4, .int .i64 a5, .int .i64 a6, .int .i64 a7] 24)) := (Below.refl _ _).alloc (Nat.le_refl _) _
  have A2 : Below W.heap.size W ((W.alloc (.cells #[.int .i64 a0, .int .i64 a1, .slice c2 n2 p2, .slice c3 n3 p3, .slice c4 n4 p4, .int .i64 a5, .int .i64 a6, .int .i64 a7] 24)).alloc hdz) := AB.alloc AB.size _
  have Z1 : ((W.alloc (.cells #[.int .i64 a0, .int .i64 a1, .slice c2 n2 p2, .slice c3 n3 p3, .slice c4 n4 p4, .int .i64 a5, .int .i64 a6, .int .i64 a7] 24)).alloc hdz).heap[W.heap.size]? = some (.cells #[.int .i64 a0, .int .i64 a1, .slice c2 n2 p2, .slice c3 n3 p3, .slice c4 n4 p4, .int .i64 a5, .int .i64 a6, .int .i64 a7] 24 (0, 0)) := by
    rw [Below.heap_alloc _ _ _ (by simp)]; exact heap_alloc_new W _
  have Z2 : ((W.alloc (.cells #[.int .i64 a0, .int .i64 a1, .slice c2 n2 p2, .slice c3 n3 p3, .slice c4 n4 p4, .int .i64 a5, .int .i64 a6, .int .i64 a7] 24)).alloc hdz).heap[W.heap.size + 1]? = some hdz := by
    have := heap_alloc_new (W.alloc (.cells #[.int .i64 a0, .int .i64 a1, .slice c2 n2 p2, .slice c3 n3 p3, .slice c4 n4 p4, .int .i64 a5, .int .i64 a6, .int .i64 a7] 24)) hdz
    rwa [World.size_alloc] at this
  have H0 : Hid _ := And.intro ((h.alloc (.cells #[.int .i64 a0, .int .i64 a1, .slice c2 n2 p2, .slice c3 n3 p3, .slice c4 n4 p4, .int .i64 a5, .int .i64 a6, .int .i64 a7] 24)).alloc hdz) (And.intro Z1 (And.intro Z2 (And.intro (show W.grownBy ((W.alloc (.cells #[.int .i64 a0, .int .i64 a1, .slice c2 n2 p2, .slice c3 n3 p3, .slice c4 n4 p4, .int .i64 a5, .int .i64 a6, .int .i64 a7] 24)).alloc hdz) (some g) from ⟨A2.os, A2.tape, A2.output, A2.size, fun k hk _ => A2.block k hk⟩) (And.intro (r2.below A2) (And.intro (r3.below A2) (r4.below A2))))))
  have HP : Hid _ := And.intro hn (And.intro hp (And.intro bd (And.intro bs (And.intro bt (And.intro e2 (And.intro e3 (And.intro e4 (And.intro s2 (And.intro s3 s4)))))))))
  clear AB A2 Z1 Z2 h r2 r3 r4 hn hp bd bs bt e2 e3 e4 s2 s3 s4
  go_enter Tryz.func23, Tryz.ntmps23
  go_wp2_with fail
  go_at_call 27
  refine HP.out.1.mono ?_
  rintro e w1 ⟨rfl, D1, G1⟩
  have H1 : Hid _ := And.intro D1 (And.intro (blk_drawn H0.out.2.1 G1 (by omega)) (And.intro (blk_drawn H0.out.2.2.1 G1 (by omega)) (And.intro (grown_trans H0.out.2.2.2.1 G1) (And.intro (H0.out.1.row H0.out.2.2.2.2.1 G1) (And.intro (H0.out.1.row H0.out.2.2.2.2.2.1 G1) (H0.out.1.row H0.out.2.2.2.2.2.2 G1))))))
  clear D1 G1
  go_wp2_with fail
  go_at_call 27
  refine (nextD g c xs (p + 3) 3 w1 H1.out.1 (by have := HP.out.2.1; omega) (by decide) (by decide)).mono ?_
  rintro e w2 ⟨k2, rfl, k0, k1, D2, G2⟩
  have l2 : IntKind.i64.wrap (8 + k2) = 8 + k2 := by rw [IntKind.wrap_i64]; omega
  have K2 : Hid _ := And.intro k0 k1
  have H2 : Hid _ := And.intro D2 (And.intro (blk_drawn H1.out.2.1 G2 (by omega)) (And.intro (blk_drawn H1.out.2.2.1 G2 (by omega)) (And.intro (grown_trans H1.out.2.2.2.1 G2) (And.intro (H1.out.1.row H1.out.2.2.2.2.1 G2) (And.intro (H1.out.1.row H1.out.2.2.2.2.2.1 G2) (H1.out.1.row H1.out.2.2.2.2.2.2 G2))))))
  clear D2 G2 k0 k1
  go_wp2_with fail
  go_at_call 26
  refine (bytesD g c xs (p + 3 + 3) (8 + k2) w2 H2.out.1 (by have := HP.out.2.1; omega) (by have := K2.out.1; omega) (by have := K2.out.2; omega)).mono ?_
  rintro e w3 ⟨ca, pa, ys, rfl, R3, l3, B3, D3, G3⟩
  have LY : Hid _ := And.intro (show ys.length ≤ 66 by have := K2.out.2; omega) B3
  have H3 : Hid _ := And.intro D3 (And.intro (blk_drawn H2.out.2.1 G3 (by omega)) (And.intro (blk_drawn H2.out.2.2.1 G3 (by omega)) (And.intro (grown_trans H2.out.2.2.2.1 G3) (And.intro (H2.out.1.row H2.out.2.2.2.2.1 G3) (And.intro (H2.out.1.row H2.out.2.2.2.2.2.1 G3) (And.intro (H2.out.1.row H2.out.2.2.2.2.2.2 G3) R3))))))
  clear D3 G3 R3 l3 B3
  obtain ⟨y0, y1, y2, y3, y4, y5, y6, y7⟩ := hc8 H3.out.2.1
  obtain ⟨u0, u1, u2, u3, u4, u5, u6, u7⟩ := hc8 H3.out.2.2.1
  obtain ⟨f0, f1, f2, f3, f4, f5, f6, f7⟩ := hf8 H3.out.2.2.1
  have fb := bk_free H3.out.2.1 2
  go_wp2
  try simp only [Exit.inBlock, Exit.then]
  refine bodyPost_ret (v := .agg #[.int .i64 a0, .int .i64 a1, .slice ca ys.length pa, .slice c3 n3 p3, .slice c4 n4 p4, .int .i64 a5, .int .i64 a6, .int .i64 a7]) ?_ rfl ?_
  · refine results_cell_row (t := 24) rfl _ _ (W.heap.size + 1) _ (fr := (0, 0)) _ rfl ?_ Tryz.underlying24 rfl infoH8
    rw [bk_set (bk_set (bk_set (bk_set (bk_set (bk_set (bk_set (bk_set (blk_off (r := W.heap.size) (i := 2) (u := .slice ca ys.length pa) H3.out.2.2.1 ne2) 0 _) 1 _) 2 _) 3 _) 4 _) 5 _) 6 _) 7 _]
    rfl
  · obtain ⟨e2, e3, e4⟩ : d.length = n2 ∧ s.length = n3 ∧ t.length = n4 := ⟨HP.out.2.2.2.2.2.1, HP.out.2.2.2.2.2.2.1, HP.out.2.2.2.2.2.2.2.1⟩
    have s2 := HP.out.2.2.2.2.2.2.2.2.1
    have s3 := HP.out.2.2.2.2.2.2.2.2.2.1
    have s4 := HP.out.2.2.2.2.2.2.2.2.2.2
    refine ⟨_, ⟨a0, a1, ys, s, t, a5, a6, a7⟩, rfl, ⟨_, _, _, rfl, ?_, ?_, ?_⟩, ⟨LY.out.2, HP.out.2.2.2.1, HP.out.2.2.2.2.1⟩, ⟨LY.out.1, (by show s.length ≤ 66; omega), (by show t.length ≤ 66; omega)⟩, ?_, ?_⟩
    · exact rowP_st8 (rowP_hd (i := 2) (u := .slice ca ys.length pa) H3.out.2.2.2.2.2.2.2 H3.out.2.1) (blk_off (r := W.heap.size) (i := 2) (u := .slice ca ys.length pa) H3.out.2.2.1 ne2)
    · exact rowP_st8 (rowP_hd (i := 2) (u := .slice ca ys.length pa) H3.out.2.2.2.2.2.1 H3.out.2.1) (blk_off (r := W.heap.size) (i := 2) (u := .slice ca ys.length pa) H3.out.2.2.1 ne2)
    · exact rowP_st8 (rowP_hd (i := 2) (u := .slice ca ys.length pa) H3.out.2.2.2.2.2.2.1 H3.out.2.1) (blk_off (r := W.heap.size) (i := 2) (u := .slice ca ys.length pa) H3.out.2.2.1 ne2)
    · exact ((((((((((H3.out.1.mono (q := p + 2000) (by omega)).set (i := 2) (u := .slice ca ys.length pa) gl).set (b := W.heap.size + 1) (by omega)).set (b := W.heap.size + 1) (by omega)).set (b := W.heap.size + 1) (by omega)).set (b := W.heap.size + 1) (by omega)).set (b := W.heap.size + 1) (by omega)).set (b := W.heap.size + 1) (by omega)).set (b := W.heap.size + 1) (by omega)).set (b := W.heap.size + 1) (by omega))
    · exact (grownP_set (grownP_set (grownP_set (grownP_set (grownP_set (grownP_set (grownP_set (grownP_set (grownP_set (b := W.heap.size) (i := 2) (u := .slice ca ys.length pa) H3.out.2.2.2.1 (Nat.le_refl _)) (Nat.le_succ _)) (Nat.le_succ _)) (Nat.le_succ _)) (Nat.le_succ _)) (Nat.le_succ _)) (Nat.le_succ _)) (Nat.le_succ _)) (Nat.le_succ _))
set_option maxRecDepth 20000 in
set_option maxHeartbeats 4000000 in
theorem bent_3 (g : Nat) (c : Value) (xs : List Int) (p : Int) (a0 a1 a5 a6 a7 : Int) (c2 c3 c4 : Option Addr) (n2 n3 n4 p2 p3 p4 : Nat) (d s t : List Int) (k : Int) (W : World) (h : Dr W g c xs p) (hp : p ≤ 800000) (r2 : Row W .u8 (.slice c2 n2 p2) d) (r3 : Row W .u8 (.slice c3 n3 p3) s) (r4 : Row W .u8 (.slice c4 n4 p4) t) (e2 : d.length = n2) (e3 : s.length = n3) (e4 : t.length = n4) (bd : Bytes d) (bs : Bytes s) (bt : Bytes t) (s2 : n2 ≤ 66) (s3 : n3 ≤ 66) (s4 : n4 ≤ 66) (hk : k = 3)
    (hn : Calls Tryz.prog 27 #[.pointer (some ⟨g, 0, none⟩), .int .i64 20] ((W.alloc (.cells #[.int .i64 a0, .int .i64 a1, .slice c2 n2 p2, .slice c3 n3 p3, .slice c4 n4 p4, .int .i64 a5, .int .i64 a6, .int .i64 a7] 24)).alloc hdz) fun e w' => e = .returned (.int .i64 k) ∧ Dr w' g c xs (p + 3) ∧ ((W.alloc (.cells #[.int .i64 a0, .int .i64 a1, .slice c2 n2 p2, .slice c3 n3 p3, .slice c4 n4 p4, .int .i64 a5, .int .i64 a6, .int .i64 a7] 24)).alloc hdz).grownBy w' (some g)) :
    Calls Tryz.prog 23 #[.pointer (some ⟨g, 0, none⟩), .agg #[.int .i64 a0, .int .i64 a1, .slice c2 n2 p2, .slice c3 n3 p3, .slice c4 n4 p4, .int .i64 a5, .int .i64 a6, .int .i64 a7]] W fun e w' => ∃ v h8, e = .returned v ∧ HRow w' v h8 ∧ h8.bytes ∧ h8.small 66 ∧ Dr w' g c xs (p + 2000) ∧ W.grownBy w' (some g) := by
  have gl := h.lt
  subst hk
  have ne1 : W.heap.size ≠ W.heap.size + 1 := by omega
  have ne2 : W.heap.size + 1 ≠ W.heap.size := by omega
  have AB : Below W.heap.size W (W.alloc (.cells #[.int .i64 a0, .int .i64 a1, .slice c2 n2 p2, .slice c3 n3 p3, .slice c4 n4 p4, .int .i64 a5, .int .i64 a6, .int .i64 a7] 24)) := (Below.refl _ _).alloc (Nat.le_refl _) _
  have A2 : Below W.heap.size W ((W.alloc (.cells #[.int .i64 a0, .int .i64 a1, .slice c2 n2 p2, .slice c3 n3 p3, .slice c4 n4 p4, .int .i64 a5, .int .i64 a6, .int .i64 a7] 24)).alloc hdz) := AB.alloc AB.size _
  have Z1 : ((W.alloc (.cells #[.int .i64 a0, .int .i64 a1, .slice c2 n2 p2, .slice c3 n3 p3, .slice c4 n4 p4, .int .i64 a5, .int .i64 a6, .int .i64 a7] 24)).alloc hdz).heap[W.heap.size]? = some (.cells #[.int .i64 a0, .int .i64 a1, .slice c2 n2 p2, .slice c3 n3 p3, .slice c4 n4 p4, .int .i64 a5, .int .i64 a6, .int .i64 a7] 24 (0, 0)) := by
    rw [Below.heap_alloc _ _ _ (by simp)]; exact heap_alloc_new W _
  have Z2 : ((W.alloc (.cells #[.int .i64 a0, .int .i64 a1, .slice c2 n2 p2, .slice c3 n3 p3, .slice c4 n4 p4, .int .i64 a5, .int .i64 a6, .int .i64 a7] 24)).alloc hdz).heap[W.heap.size + 1]? = some hdz := by
    have := heap_alloc_new (W.alloc (.cells #[.int .i64 a0, .int .i64 a1, .slice c2 n2 p2, .slice c3 n3 p3, .slice c4 n4 p4, .int .i64 a5, .int .i64 a6, .int .i64 a7] 24)) hdz
    rwa [World.size_alloc] at this
  have H0 : Hid _ := And.intro ((h.alloc (.cells #[.int .i64 a0, .int .i64 a1, .slice c2 n2 p2, .slice c3 n3 p3, .slice c4 n4 p4, .int .i64 a5, .int .i64 a6, .int .i64 a7] 24)).alloc hdz) (And.intro Z1 (And.intro Z2 (And.intro (show W.grownBy ((W.alloc (.cells #[.int .i64 a0, .int .i64 a1, .slice c2 n2 p2, .slice c3 n3 p3, .slice c4 n4 p4, .int .i64 a5, .int .i64 a6, .int .i64 a7] 24)).alloc hdz) (some g) from ⟨A2.os, A2.tape, A2.output, A2.size, fun k hk _ => A2.block k hk⟩) (And.intro (r2.below A2) (And.intro (r3.below A2) (r4.below A2))))))
  have HP : Hid _ := And.intro hn (And.intro hp (And.intro bd (And.intro bs (And.intro bt (And.intro e2 (And.intro e3 (And.intro e4 (And.intro s2 (And.intro s3 s4)))))))))
  clear AB A2 Z1 Z2 h r2 r3 r4 hn hp bd bs bt e2 e3 e4 s2 s3 s4
  go_enter Tryz.func23, Tryz.ntmps23
  go_wp2_with fail
  go_at_call 27
  refine HP.out.1.mono ?_
  rintro e w1 ⟨rfl, D1, G1⟩
  have H1 : Hid _ := And.intro D1 (And.intro (blk_drawn H0.out.2.1 G1 (by omega)) (And.intro (blk_drawn H0.out.2.2.1 G1 (by omega)) (And.intro (grown_trans H0.out.2.2.2.1 G1) (And.intro (H0.out.1.row H0.out.2.2.2.2.1 G1) (And.intro (H0.out.1.row H0.out.2.2.2.2.2.1 G1) (H0.out.1.row H0.out.2.2.2.2.2.2 G1))))))
  clear D1 G1
  go_wp2_with fail
  go_at_call 27
  refine (nextD g c xs (p + 3) 3 w1 H1.out.1 (by have := HP.out.2.1; omega) (by decide) (by decide)).mono ?_
  rintro e w2 ⟨k2, rfl, k0, k1, D2, G2⟩
  have l2 : IntKind.i64.wrap (8 + k2) = 8 + k2 := by rw [IntKind.wrap_i64]; omega
  have K2 : Hid _ := And.intro k0 k1
  have H2 : Hid _ := And.intro D2 (And.intro (blk_drawn H1.out.2.1 G2 (by omega)) (And.intro (blk_drawn H1.out.2.2.1 G2 (by omega)) (And.intro (grown_trans H1.out.2.2.2.1 G2) (And.intro (H1.out.1.row H1.out.2.2.2.2.1 G2) (And.intro (H1.out.1.row H1.out.2.2.2.2.2.1 G2) (H1.out.1.row H1.out.2.2.2.2.2.2 G2))))))
  clear D2 G2 k0 k1
  go_wp2_with fail
  go_at_call 26
  refine (bytesD g c xs (p + 3 + 3) (8 + k2) w2 H2.out.1 (by have := HP.out.2.1; omega) (by have := K2.out.1; omega) (by have := K2.out.2; omega)).mono ?_
  rintro e w3 ⟨ca, pa, ys, rfl, R3, l3, B3, D3, G3⟩
  have LY : Hid _ := And.intro (show ys.length ≤ 66 by have := K2.out.2; omega) B3
  have H3 : Hid _ := And.intro D3 (And.intro (blk_drawn H2.out.2.1 G3 (by omega)) (And.intro (blk_drawn H2.out.2.2.1 G3 (by omega)) (And.intro (grown_trans H2.out.2.2.2.1 G3) (And.intro (H2.out.1.row H2.out.2.2.2.2.1 G3) (And.intro (H2.out.1.row H2.out.2.2.2.2.2.1 G3) (And.intro (H2.out.1.row H2.out.2.2.2.2.2.2 G3) R3))))))
  clear D3 G3 R3 l3 B3
  obtain ⟨y0, y1, y2, y3, y4, y5, y6, y7⟩ := hc8 H3.out.2.1
  obtain ⟨u0, u1, u2, u3, u4, u5, u6, u7⟩ := hc8 H3.out.2.2.1
  obtain ⟨f0, f1, f2, f3, f4, f5, f6, f7⟩ := hf8 H3.out.2.2.1
  have fb := bk_free H3.out.2.1 3
  go_wp2
  try simp only [Exit.inBlock, Exit.then]
  refine bodyPost_ret (v := .agg #[.int .i64 a0, .int .i64 a1, .slice c2 n2 p2, .slice ca ys.length pa, .slice c4 n4 p4, .int .i64 a5, .int .i64 a6, .int .i64 a7]) ?_ rfl ?_
  · refine results_cell_row (t := 24) rfl _ _ (W.heap.size + 1) _ (fr := (0, 0)) _ rfl ?_ Tryz.underlying24 rfl infoH8
    rw [bk_set (bk_set (bk_set (bk_set (bk_set (bk_set (bk_set (bk_set (blk_off (r := W.heap.size) (i := 3) (u := .slice ca ys.length pa) H3.out.2.2.1 ne2) 0 _) 1 _) 2 _) 3 _) 4 _) 5 _) 6 _) 7 _]
    rfl
  · obtain ⟨e2, e3, e4⟩ : d.length = n2 ∧ s.length = n3 ∧ t.length = n4 := ⟨HP.out.2.2.2.2.2.1, HP.out.2.2.2.2.2.2.1, HP.out.2.2.2.2.2.2.2.1⟩
    have s2 := HP.out.2.2.2.2.2.2.2.2.1
    have s3 := HP.out.2.2.2.2.2.2.2.2.2.1
    have s4 := HP.out.2.2.2.2.2.2.2.2.2.2
    refine ⟨_, ⟨a0, a1, d, ys, t, a5, a6, a7⟩, rfl, ⟨_, _, _, rfl, ?_, ?_, ?_⟩, ⟨HP.out.2.2.1, LY.out.2, HP.out.2.2.2.2.1⟩, ⟨(by show d.length ≤ 66; omega), LY.out.1, (by show t.length ≤ 66; omega)⟩, ?_, ?_⟩
    · exact rowP_st8 (rowP_hd (i := 3) (u := .slice ca ys.length pa) H3.out.2.2.2.2.1 H3.out.2.1) (blk_off (r := W.heap.size) (i := 3) (u := .slice ca ys.length pa) H3.out.2.2.1 ne2)
    · exact rowP_st8 (rowP_hd (i := 3) (u := .slice ca ys.length pa) H3.out.2.2.2.2.2.2.2 H3.out.2.1) (blk_off (r := W.heap.size) (i := 3) (u := .slice ca ys.length pa) H3.out.2.2.1 ne2)
    · exact rowP_st8 (rowP_hd (i := 3) (u := .slice ca ys.length pa) H3.out.2.2.2.2.2.2.1 H3.out.2.1) (blk_off (r := W.heap.size) (i := 3) (u := .slice ca ys.length pa) H3.out.2.2.1 ne2)
    · exact ((((((((((H3.out.1.mono (q := p + 2000) (by omega)).set (i := 3) (u := .slice ca ys.length pa) gl).set (b := W.heap.size + 1) (by omega)).set (b := W.heap.size + 1) (by omega)).set (b := W.heap.size + 1) (by omega)).set (b := W.heap.size + 1) (by omega)).set (b := W.heap.size + 1) (by omega)).set (b := W.heap.size + 1) (by omega)).set (b := W.heap.size + 1) (by omega)).set (b := W.heap.size + 1) (by omega))
    · exact (grownP_set (grownP_set (grownP_set (grownP_set (grownP_set (grownP_set (grownP_set (grownP_set (grownP_set (b := W.heap.size) (i := 3) (u := .slice ca ys.length pa) H3.out.2.2.2.1 (Nat.le_refl _)) (Nat.le_succ _)) (Nat.le_succ _)) (Nat.le_succ _)) (Nat.le_succ _)) (Nat.le_succ _)) (Nat.le_succ _)) (Nat.le_succ _)) (Nat.le_succ _))
set_option maxRecDepth 20000 in
set_option maxHeartbeats 4000000 in
theorem bent_4 (g : Nat) (c : Value) (xs : List Int) (p : Int) (a0 a1 a5 a6 a7 : Int) (c2 c3 c4 : Option Addr) (n2 n3 n4 p2 p3 p4 : Nat) (d s t : List Int) (k : Int) (W : World) (h : Dr W g c xs p) (hp : p ≤ 800000) (r2 : Row W .u8 (.slice c2 n2 p2) d) (r3 : Row W .u8 (.slice c3 n3 p3) s) (r4 : Row W .u8 (.slice c4 n4 p4) t) (e2 : d.length = n2) (e3 : s.length = n3) (e4 : t.length = n4) (bd : Bytes d) (bs : Bytes s) (bt : Bytes t) (s2 : n2 ≤ 66) (s3 : n3 ≤ 66) (s4 : n4 ≤ 66) (hk : k = 4)
    (hn : Calls Tryz.prog 27 #[.pointer (some ⟨g, 0, none⟩), .int .i64 20] ((W.alloc (.cells #[.int .i64 a0, .int .i64 a1, .slice c2 n2 p2, .slice c3 n3 p3, .slice c4 n4 p4, .int .i64 a5, .int .i64 a6, .int .i64 a7] 24)).alloc hdz) fun e w' => e = .returned (.int .i64 k) ∧ Dr w' g c xs (p + 3) ∧ ((W.alloc (.cells #[.int .i64 a0, .int .i64 a1, .slice c2 n2 p2, .slice c3 n3 p3, .slice c4 n4 p4, .int .i64 a5, .int .i64 a6, .int .i64 a7] 24)).alloc hdz).grownBy w' (some g)) :
    Calls Tryz.prog 23 #[.pointer (some ⟨g, 0, none⟩), .agg #[.int .i64 a0, .int .i64 a1, .slice c2 n2 p2, .slice c3 n3 p3, .slice c4 n4 p4, .int .i64 a5, .int .i64 a6, .int .i64 a7]] W fun e w' => ∃ v h8, e = .returned v ∧ HRow w' v h8 ∧ h8.bytes ∧ h8.small 66 ∧ Dr w' g c xs (p + 2000) ∧ W.grownBy w' (some g) := by
  have gl := h.lt
  subst hk
  have ne1 : W.heap.size ≠ W.heap.size + 1 := by omega
  have ne2 : W.heap.size + 1 ≠ W.heap.size := by omega
  have AB : Below W.heap.size W (W.alloc (.cells #[.int .i64 a0, .int .i64 a1, .slice c2 n2 p2, .slice c3 n3 p3, .slice c4 n4 p4, .int .i64 a5, .int .i64 a6, .int .i64 a7] 24)) := (Below.refl _ _).alloc (Nat.le_refl _) _
  have A2 : Below W.heap.size W ((W.alloc (.cells #[.int .i64 a0, .int .i64 a1, .slice c2 n2 p2, .slice c3 n3 p3, .slice c4 n4 p4, .int .i64 a5, .int .i64 a6, .int .i64 a7] 24)).alloc hdz) := AB.alloc AB.size _
  have Z1 : ((W.alloc (.cells #[.int .i64 a0, .int .i64 a1, .slice c2 n2 p2, .slice c3 n3 p3, .slice c4 n4 p4, .int .i64 a5, .int .i64 a6, .int .i64 a7] 24)).alloc hdz).heap[W.heap.size]? = some (.cells #[.int .i64 a0, .int .i64 a1, .slice c2 n2 p2, .slice c3 n3 p3, .slice c4 n4 p4, .int .i64 a5, .int .i64 a6, .int .i64 a7] 24 (0, 0)) := by
    rw [Below.heap_alloc _ _ _ (by simp)]; exact heap_alloc_new W _
  have Z2 : ((W.alloc (.cells #[.int .i64 a0, .int .i64 a1, .slice c2 n2 p2, .slice c3 n3 p3, .slice c4 n4 p4, .int .i64 a5, .int .i64 a6, .int .i64 a7] 24)).alloc hdz).heap[W.heap.size + 1]? = some hdz := by
    have := heap_alloc_new (W.alloc (.cells #[.int .i64 a0, .int .i64 a1, .slice c2 n2 p2, .slice c3 n3 p3, .slice c4 n4 p4, .int .i64 a5, .int .i64 a6, .int .i64 a7] 24)) hdz
    rwa [World.size_alloc] at this
  have H0 : Hid _ := And.intro ((h.alloc (.cells #[.int .i64 a0, .int .i64 a1, .slice c2 n2 p2, .slice c3 n3 p3, .slice c4 n4 p4, .int .i64 a5, .int .i64 a6, .int .i64 a7] 24)).alloc hdz) (And.intro Z1 (And.intro Z2 (And.intro (show W.grownBy ((W.alloc (.cells #[.int .i64 a0, .int .i64 a1, .slice c2 n2 p2, .slice c3 n3 p3, .slice c4 n4 p4, .int .i64 a5, .int .i64 a6, .int .i64 a7] 24)).alloc hdz) (some g) from ⟨A2.os, A2.tape, A2.output, A2.size, fun k hk _ => A2.block k hk⟩) (And.intro (r2.below A2) (And.intro (r3.below A2) (r4.below A2))))))
  have HP : Hid _ := And.intro hn (And.intro hp (And.intro bd (And.intro bs (And.intro bt (And.intro e2 (And.intro e3 (And.intro e4 (And.intro s2 (And.intro s3 s4)))))))))
  clear AB A2 Z1 Z2 h r2 r3 r4 hn hp bd bs bt e2 e3 e4 s2 s3 s4
  go_enter Tryz.func23, Tryz.ntmps23
  go_wp2_with fail
  go_at_call 27
  refine HP.out.1.mono ?_
  rintro e w1 ⟨rfl, D1, G1⟩
  have H1 : Hid _ := And.intro D1 (And.intro (blk_drawn H0.out.2.1 G1 (by omega)) (And.intro (blk_drawn H0.out.2.2.1 G1 (by omega)) (And.intro (grown_trans H0.out.2.2.2.1 G1) (And.intro (H0.out.1.row H0.out.2.2.2.2.1 G1) (And.intro (H0.out.1.row H0.out.2.2.2.2.2.1 G1) (H0.out.1.row H0.out.2.2.2.2.2.2 G1))))))
  clear D1 G1
  go_wp2_with fail
  go_at_call 27
  refine (nextD g c xs (p + 3) 3 w1 H1.out.1 (by have := HP.out.2.1; omega) (by decide) (by decide)).mono ?_
  rintro e w2 ⟨k2, rfl, k0, k1, D2, G2⟩
  have l2 : IntKind.i64.wrap (64 + k2) = 64 + k2 := by rw [IntKind.wrap_i64]; omega
  have K2 : Hid _ := And.intro k0 k1
  have H2 : Hid _ := And.intro D2 (And.intro (blk_drawn H1.out.2.1 G2 (by omega)) (And.intro (blk_drawn H1.out.2.2.1 G2 (by omega)) (And.intro (grown_trans H1.out.2.2.2.1 G2) (And.intro (H1.out.1.row H1.out.2.2.2.2.1 G2) (And.intro (H1.out.1.row H1.out.2.2.2.2.2.1 G2) (H1.out.1.row H1.out.2.2.2.2.2.2 G2))))))
  clear D2 G2 k0 k1
  go_wp2_with fail
  go_at_call 26
  refine (bytesD g c xs (p + 3 + 3) (64 + k2) w2 H2.out.1 (by have := HP.out.2.1; omega) (by have := K2.out.1; omega) (by have := K2.out.2; omega)).mono ?_
  rintro e w3 ⟨ca, pa, ys, rfl, R3, l3, B3, D3, G3⟩
  have LY : Hid _ := And.intro (show ys.length ≤ 66 by have := K2.out.2; omega) B3
  have H3 : Hid _ := And.intro D3 (And.intro (blk_drawn H2.out.2.1 G3 (by omega)) (And.intro (blk_drawn H2.out.2.2.1 G3 (by omega)) (And.intro (grown_trans H2.out.2.2.2.1 G3) (And.intro (H2.out.1.row H2.out.2.2.2.2.1 G3) (And.intro (H2.out.1.row H2.out.2.2.2.2.2.1 G3) (And.intro (H2.out.1.row H2.out.2.2.2.2.2.2 G3) R3))))))
  clear D3 G3 R3 l3 B3
  obtain ⟨y0, y1, y2, y3, y4, y5, y6, y7⟩ := hc8 H3.out.2.1
  obtain ⟨u0, u1, u2, u3, u4, u5, u6, u7⟩ := hc8 H3.out.2.2.1
  obtain ⟨f0, f1, f2, f3, f4, f5, f6, f7⟩ := hf8 H3.out.2.2.1
  have fb := bk_free H3.out.2.1 4
  go_wp2
  try simp only [Exit.inBlock, Exit.then]
  refine bodyPost_ret (v := .agg #[.int .i64 a0, .int .i64 a1, .slice c2 n2 p2, .slice c3 n3 p3, .slice ca ys.length pa, .int .i64 a5, .int .i64 a6, .int .i64 a7]) ?_ rfl ?_
  · refine results_cell_row (t := 24) rfl _ _ (W.heap.size + 1) _ (fr := (0, 0)) _ rfl ?_ Tryz.underlying24 rfl infoH8
    rw [bk_set (bk_set (bk_set (bk_set (bk_set (bk_set (bk_set (bk_set (blk_off (r := W.heap.size) (i := 4) (u := .slice ca ys.length pa) H3.out.2.2.1 ne2) 0 _) 1 _) 2 _) 3 _) 4 _) 5 _) 6 _) 7 _]
    rfl
  · obtain ⟨e2, e3, e4⟩ : d.length = n2 ∧ s.length = n3 ∧ t.length = n4 := ⟨HP.out.2.2.2.2.2.1, HP.out.2.2.2.2.2.2.1, HP.out.2.2.2.2.2.2.2.1⟩
    have s2 := HP.out.2.2.2.2.2.2.2.2.1
    have s3 := HP.out.2.2.2.2.2.2.2.2.2.1
    have s4 := HP.out.2.2.2.2.2.2.2.2.2.2
    refine ⟨_, ⟨a0, a1, d, s, ys, a5, a6, a7⟩, rfl, ⟨_, _, _, rfl, ?_, ?_, ?_⟩, ⟨HP.out.2.2.1, HP.out.2.2.2.1, LY.out.2⟩, ⟨(by show d.length ≤ 66; omega), (by show s.length ≤ 66; omega), LY.out.1⟩, ?_, ?_⟩
    · exact rowP_st8 (rowP_hd (i := 4) (u := .slice ca ys.length pa) H3.out.2.2.2.2.1 H3.out.2.1) (blk_off (r := W.heap.size) (i := 4) (u := .slice ca ys.length pa) H3.out.2.2.1 ne2)
    · exact rowP_st8 (rowP_hd (i := 4) (u := .slice ca ys.length pa) H3.out.2.2.2.2.2.1 H3.out.2.1) (blk_off (r := W.heap.size) (i := 4) (u := .slice ca ys.length pa) H3.out.2.2.1 ne2)
    · exact rowP_st8 (rowP_hd (i := 4) (u := .slice ca ys.length pa) H3.out.2.2.2.2.2.2.2 H3.out.2.1) (blk_off (r := W.heap.size) (i := 4) (u := .slice ca ys.length pa) H3.out.2.2.1 ne2)
    · exact ((((((((((H3.out.1.mono (q := p + 2000) (by omega)).set (i := 4) (u := .slice ca ys.length pa) gl).set (b := W.heap.size + 1) (by omega)).set (b := W.heap.size + 1) (by omega)).set (b := W.heap.size + 1) (by omega)).set (b := W.heap.size + 1) (by omega)).set (b := W.heap.size + 1) (by omega)).set (b := W.heap.size + 1) (by omega)).set (b := W.heap.size + 1) (by omega)).set (b := W.heap.size + 1) (by omega))
    · exact (grownP_set (grownP_set (grownP_set (grownP_set (grownP_set (grownP_set (grownP_set (grownP_set (grownP_set (b := W.heap.size) (i := 4) (u := .slice ca ys.length pa) H3.out.2.2.2.1 (Nat.le_refl _)) (Nat.le_succ _)) (Nat.le_succ _)) (Nat.le_succ _)) (Nat.le_succ _)) (Nat.le_succ _)) (Nat.le_succ _)) (Nat.le_succ _)) (Nat.le_succ _))
set_option maxRecDepth 20000 in
set_option maxHeartbeats 4000000 in
theorem bent_5 (g : Nat) (c : Value) (xs : List Int) (p : Int) (a0 a1 a5 a6 a7 : Int) (c2 c3 c4 : Option Addr) (n2 n3 n4 p2 p3 p4 : Nat) (d s t : List Int) (k : Int) (W : World) (h : Dr W g c xs p) (hp : p ≤ 800000) (r2 : Row W .u8 (.slice c2 n2 p2) d) (r3 : Row W .u8 (.slice c3 n3 p3) s) (r4 : Row W .u8 (.slice c4 n4 p4) t) (e2 : d.length = n2) (e3 : s.length = n3) (e4 : t.length = n4) (bd : Bytes d) (bs : Bytes s) (bt : Bytes t) (s2 : n2 ≤ 66) (s3 : n3 ≤ 66) (s4 : n4 ≤ 66) (hk : k = 5)
    (hn : Calls Tryz.prog 27 #[.pointer (some ⟨g, 0, none⟩), .int .i64 20] ((W.alloc (.cells #[.int .i64 a0, .int .i64 a1, .slice c2 n2 p2, .slice c3 n3 p3, .slice c4 n4 p4, .int .i64 a5, .int .i64 a6, .int .i64 a7] 24)).alloc hdz) fun e w' => e = .returned (.int .i64 k) ∧ Dr w' g c xs (p + 3) ∧ ((W.alloc (.cells #[.int .i64 a0, .int .i64 a1, .slice c2 n2 p2, .slice c3 n3 p3, .slice c4 n4 p4, .int .i64 a5, .int .i64 a6, .int .i64 a7] 24)).alloc hdz).grownBy w' (some g)) :
    Calls Tryz.prog 23 #[.pointer (some ⟨g, 0, none⟩), .agg #[.int .i64 a0, .int .i64 a1, .slice c2 n2 p2, .slice c3 n3 p3, .slice c4 n4 p4, .int .i64 a5, .int .i64 a6, .int .i64 a7]] W fun e w' => ∃ v h8, e = .returned v ∧ HRow w' v h8 ∧ h8.bytes ∧ h8.small 66 ∧ Dr w' g c xs (p + 2000) ∧ W.grownBy w' (some g) := by
  have gl := h.lt
  subst hk
  have ne1 : W.heap.size ≠ W.heap.size + 1 := by omega
  have ne2 : W.heap.size + 1 ≠ W.heap.size := by omega
  have AB : Below W.heap.size W (W.alloc (.cells #[.int .i64 a0, .int .i64 a1, .slice c2 n2 p2, .slice c3 n3 p3, .slice c4 n4 p4, .int .i64 a5, .int .i64 a6, .int .i64 a7] 24)) := (Below.refl _ _).alloc (Nat.le_refl _) _
  have A2 : Below W.heap.size W ((W.alloc (.cells #[.int .i64 a0, .int .i64 a1, .slice c2 n2 p2, .slice c3 n3 p3, .slice c4 n4 p4, .int .i64 a5, .int .i64 a6, .int .i64 a7] 24)).alloc hdz) := AB.alloc AB.size _
  have Z1 : ((W.alloc (.cells #[.int .i64 a0, .int .i64 a1, .slice c2 n2 p2, .slice c3 n3 p3, .slice c4 n4 p4, .int .i64 a5, .int .i64 a6, .int .i64 a7] 24)).alloc hdz).heap[W.heap.size]? = some (.cells #[.int .i64 a0, .int .i64 a1, .slice c2 n2 p2, .slice c3 n3 p3, .slice c4 n4 p4, .int .i64 a5, .int .i64 a6, .int .i64 a7] 24 (0, 0)) := by
    rw [Below.heap_alloc _ _ _ (by simp)]; exact heap_alloc_new W _
  have Z2 : ((W.alloc (.cells #[.int .i64 a0, .int .i64 a1, .slice c2 n2 p2, .slice c3 n3 p3, .slice c4 n4 p4, .int .i64 a5, .int .i64 a6, .int .i64 a7] 24)).alloc hdz).heap[W.heap.size + 1]? = some hdz := by
    have := heap_alloc_new (W.alloc (.cells #[.int .i64 a0, .int .i64 a1, .slice c2 n2 p2, .slice c3 n3 p3, .slice c4 n4 p4, .int .i64 a5, .int .i64 a6, .int .i64 a7] 24)) hdz
    rwa [World.size_alloc] at this
  have H0 : Hid _ := And.intro ((h.alloc (.cells #[.int .i64 a0, .int .i64 a1, .slice c2 n2 p2, .slice c3 n3 p3, .slice c4 n4 p4, .int .i64 a5, .int .i64 a6, .int .i64 a7] 24)).alloc hdz) (And.intro Z1 (And.intro Z2 (And.intro (show W.grownBy ((W.alloc (.cells #[.int .i64 a0, .int .i64 a1, .slice c2 n2 p2, .slice c3 n3 p3, .slice c4 n4 p4, .int .i64 a5, .int .i64 a6, .int .i64 a7] 24)).alloc hdz) (some g) from ⟨A2.os, A2.tape, A2.output, A2.size, fun k hk _ => A2.block k hk⟩) (And.intro (r2.below A2) (And.intro (r3.below A2) (r4.below A2))))))
  have HP : Hid _ := And.intro hn (And.intro hp (And.intro bd (And.intro bs (And.intro bt (And.intro e2 (And.intro e3 (And.intro e4 (And.intro s2 (And.intro s3 s4)))))))))
  clear AB A2 Z1 Z2 h r2 r3 r4 hn hp bd bs bt e2 e3 e4 s2 s3 s4
  go_enter Tryz.func23, Tryz.ntmps23
  go_wp2_with fail
  go_at_call 27
  refine HP.out.1.mono ?_
  rintro e w1 ⟨rfl, D1, G1⟩
  have H1 : Hid _ := And.intro D1 (And.intro (blk_drawn H0.out.2.1 G1 (by omega)) (And.intro (blk_drawn H0.out.2.2.1 G1 (by omega)) (And.intro (grown_trans H0.out.2.2.2.1 G1) (And.intro (H0.out.1.row H0.out.2.2.2.2.1 G1) (And.intro (H0.out.1.row H0.out.2.2.2.2.2.1 G1) (H0.out.1.row H0.out.2.2.2.2.2.2 G1))))))
  clear D1 G1
  go_wp2_with fail
  go_at_call 51
  refine (numberD g c xs (p + 3) w1 H1.out.1 (by have := HP.out.2.1; omega)).mono ?_
  rintro e w2 ⟨k2, rfl, D2, G2⟩
  have H2 : Hid _ := And.intro D2 (And.intro (blk_drawn H1.out.2.1 G2 (by omega)) (And.intro (blk_drawn H1.out.2.2.1 G2 (by omega)) (And.intro (grown_trans H1.out.2.2.2.1 G2) (And.intro (H1.out.1.row H1.out.2.2.2.2.1 G2) (And.intro (H1.out.1.row H1.out.2.2.2.2.2.1 G2) (H1.out.1.row H1.out.2.2.2.2.2.2 G2))))))
  clear D2 G2
  obtain ⟨y0, y1, y2, y3, y4, y5, y6, y7⟩ := hc8 H2.out.2.1
  obtain ⟨u0, u1, u2, u3, u4, u5, u6, u7⟩ := hc8 H2.out.2.2.1
  obtain ⟨f0, f1, f2, f3, f4, f5, f6, f7⟩ := hf8 H2.out.2.2.1
  have fb := bk_free H2.out.2.1 5
  go_wp2
  try simp only [Exit.inBlock, Exit.then]
  refine bodyPost_ret (v := .agg #[.int .i64 a0, .int .i64 a1, .slice c2 n2 p2, .slice c3 n3 p3, .slice c4 n4 p4, .int .i64 k2, .int .i64 a6, .int .i64 a7]) ?_ rfl ?_
  · refine results_cell_row (t := 24) rfl _ _ (W.heap.size + 1) _ (fr := (0, 0)) _ rfl ?_ Tryz.underlying24 rfl infoH8
    rw [bk_set (bk_set (bk_set (bk_set (bk_set (bk_set (bk_set (bk_set (blk_off (r := W.heap.size) (i := 5) (u := .int .i64 k2) H2.out.2.2.1 ne2) 0 _) 1 _) 2 _) 3 _) 4 _) 5 _) 6 _) 7 _]
    rfl
  · obtain ⟨e2, e3, e4⟩ : d.length = n2 ∧ s.length = n3 ∧ t.length = n4 := ⟨HP.out.2.2.2.2.2.1, HP.out.2.2.2.2.2.2.1, HP.out.2.2.2.2.2.2.2.1⟩
    have s2 := HP.out.2.2.2.2.2.2.2.2.1
    have s3 := HP.out.2.2.2.2.2.2.2.2.2.1
    have s4 := HP.out.2.2.2.2.2.2.2.2.2.2
    refine ⟨_, ⟨a0, a1, d, s, t, k2, a6, a7⟩, rfl, ⟨_, _, _, rfl, ?_, ?_, ?_⟩, ⟨HP.out.2.2.1, HP.out.2.2.2.1, HP.out.2.2.2.2.1⟩, ⟨(by show d.length ≤ 66; omega), (by show s.length ≤ 66; omega), (by show t.length ≤ 66; omega)⟩, ?_, ?_⟩
    · exact rowP_st8 (rowP_hd (i := 5) (u := .int .i64 k2) H2.out.2.2.2.2.1 H2.out.2.1) (blk_off (r := W.heap.size) (i := 5) (u := .int .i64 k2) H2.out.2.2.1 ne2)
    · exact rowP_st8 (rowP_hd (i := 5) (u := .int .i64 k2) H2.out.2.2.2.2.2.1 H2.out.2.1) (blk_off (r := W.heap.size) (i := 5) (u := .int .i64 k2) H2.out.2.2.1 ne2)
    · exact rowP_st8 (rowP_hd (i := 5) (u := .int .i64 k2) H2.out.2.2.2.2.2.2 H2.out.2.1) (blk_off (r := W.heap.size) (i := 5) (u := .int .i64 k2) H2.out.2.2.1 ne2)
    · exact ((((((((((H2.out.1.mono (q := p + 2000) (by omega)).set (i := 5) (u := .int .i64 k2) gl).set (b := W.heap.size + 1) (by omega)).set (b := W.heap.size + 1) (by omega)).set (b := W.heap.size + 1) (by omega)).set (b := W.heap.size + 1) (by omega)).set (b := W.heap.size + 1) (by omega)).set (b := W.heap.size + 1) (by omega)).set (b := W.heap.size + 1) (by omega)).set (b := W.heap.size + 1) (by omega))
    · exact (grownP_set (grownP_set (grownP_set (grownP_set (grownP_set (grownP_set (grownP_set (grownP_set (grownP_set (b := W.heap.size) (i := 5) (u := .int .i64 k2) H2.out.2.2.2.1 (Nat.le_refl _)) (Nat.le_succ _)) (Nat.le_succ _)) (Nat.le_succ _)) (Nat.le_succ _)) (Nat.le_succ _)) (Nat.le_succ _)) (Nat.le_succ _)) (Nat.le_succ _))
set_option maxRecDepth 20000 in
set_option maxHeartbeats 4000000 in
theorem bent_6 (g : Nat) (c : Value) (xs : List Int) (p : Int) (a0 a1 a5 a6 a7 : Int) (c2 c3 c4 : Option Addr) (n2 n3 n4 p2 p3 p4 : Nat) (d s t : List Int) (k : Int) (W : World) (h : Dr W g c xs p) (hp : p ≤ 800000) (r2 : Row W .u8 (.slice c2 n2 p2) d) (r3 : Row W .u8 (.slice c3 n3 p3) s) (r4 : Row W .u8 (.slice c4 n4 p4) t) (e2 : d.length = n2) (e3 : s.length = n3) (e4 : t.length = n4) (bd : Bytes d) (bs : Bytes s) (bt : Bytes t) (s2 : n2 ≤ 66) (s3 : n3 ≤ 66) (s4 : n4 ≤ 66) (hk : k = 6)
    (hn : Calls Tryz.prog 27 #[.pointer (some ⟨g, 0, none⟩), .int .i64 20] ((W.alloc (.cells #[.int .i64 a0, .int .i64 a1, .slice c2 n2 p2, .slice c3 n3 p3, .slice c4 n4 p4, .int .i64 a5, .int .i64 a6, .int .i64 a7] 24)).alloc hdz) fun e w' => e = .returned (.int .i64 k) ∧ Dr w' g c xs (p + 3) ∧ ((W.alloc (.cells #[.int .i64 a0, .int .i64 a1, .slice c2 n2 p2, .slice c3 n3 p3, .slice c4 n4 p4, .int .i64 a5, .int .i64 a6, .int .i64 a7] 24)).alloc hdz).grownBy w' (some g)) :
    Calls Tryz.prog 23 #[.pointer (some ⟨g, 0, none⟩), .agg #[.int .i64 a0, .int .i64 a1, .slice c2 n2 p2, .slice c3 n3 p3, .slice c4 n4 p4, .int .i64 a5, .int .i64 a6, .int .i64 a7]] W fun e w' => ∃ v h8, e = .returned v ∧ HRow w' v h8 ∧ h8.bytes ∧ h8.small 66 ∧ Dr w' g c xs (p + 2000) ∧ W.grownBy w' (some g) := by
  have gl := h.lt
  subst hk
  have ne1 : W.heap.size ≠ W.heap.size + 1 := by omega
  have ne2 : W.heap.size + 1 ≠ W.heap.size := by omega
  have AB : Below W.heap.size W (W.alloc (.cells #[.int .i64 a0, .int .i64 a1, .slice c2 n2 p2, .slice c3 n3 p3, .slice c4 n4 p4, .int .i64 a5, .int .i64 a6, .int .i64 a7] 24)) := (Below.refl _ _).alloc (Nat.le_refl _) _
  have A2 : Below W.heap.size W ((W.alloc (.cells #[.int .i64 a0, .int .i64 a1, .slice c2 n2 p2, .slice c3 n3 p3, .slice c4 n4 p4, .int .i64 a5, .int .i64 a6, .int .i64 a7] 24)).alloc hdz) := AB.alloc AB.size _
  have Z1 : ((W.alloc (.cells #[.int .i64 a0, .int .i64 a1, .slice c2 n2 p2, .slice c3 n3 p3, .slice c4 n4 p4, .int .i64 a5, .int .i64 a6, .int .i64 a7] 24)).alloc hdz).heap[W.heap.size]? = some (.cells #[.int .i64 a0, .int .i64 a1, .slice c2 n2 p2, .slice c3 n3 p3, .slice c4 n4 p4, .int .i64 a5, .int .i64 a6, .int .i64 a7] 24 (0, 0)) := by
    rw [Below.heap_alloc _ _ _ (by simp)]; exact heap_alloc_new W _
  have Z2 : ((W.alloc (.cells #[.int .i64 a0, .int .i64 a1, .slice c2 n2 p2, .slice c3 n3 p3, .slice c4 n4 p4, .int .i64 a5, .int .i64 a6, .int .i64 a7] 24)).alloc hdz).heap[W.heap.size + 1]? = some hdz := by
    have := heap_alloc_new (W.alloc (.cells #[.int .i64 a0, .int .i64 a1, .slice c2 n2 p2, .slice c3 n3 p3, .slice c4 n4 p4, .int .i64 a5, .int .i64 a6, .int .i64 a7] 24)) hdz
    rwa [World.size_alloc] at this
  have H0 : Hid _ := And.intro ((h.alloc (.cells #[.int .i64 a0, .int .i64 a1, .slice c2 n2 p2, .slice c3 n3 p3, .slice c4 n4 p4, .int .i64 a5, .int .i64 a6, .int .i64 a7] 24)).alloc hdz) (And.intro Z1 (And.intro Z2 (And.intro (show W.grownBy ((W.alloc (.cells #[.int .i64 a0, .int .i64 a1, .slice c2 n2 p2, .slice c3 n3 p3, .slice c4 n4 p4, .int .i64 a5, .int .i64 a6, .int .i64 a7] 24)).alloc hdz) (some g) from ⟨A2.os, A2.tape, A2.output, A2.size, fun k hk _ => A2.block k hk⟩) (And.intro (r2.below A2) (And.intro (r3.below A2) (r4.below A2))))))
  have HP : Hid _ := And.intro hn (And.intro hp (And.intro bd (And.intro bs (And.intro bt (And.intro e2 (And.intro e3 (And.intro e4 (And.intro s2 (And.intro s3 s4)))))))))
  clear AB A2 Z1 Z2 h r2 r3 r4 hn hp bd bs bt e2 e3 e4 s2 s3 s4
  go_enter Tryz.func23, Tryz.ntmps23
  go_wp2_with fail
  go_at_call 27
  refine HP.out.1.mono ?_
  rintro e w1 ⟨rfl, D1, G1⟩
  have H1 : Hid _ := And.intro D1 (And.intro (blk_drawn H0.out.2.1 G1 (by omega)) (And.intro (blk_drawn H0.out.2.2.1 G1 (by omega)) (And.intro (grown_trans H0.out.2.2.2.1 G1) (And.intro (H0.out.1.row H0.out.2.2.2.2.1 G1) (And.intro (H0.out.1.row H0.out.2.2.2.2.2.1 G1) (H0.out.1.row H0.out.2.2.2.2.2.2 G1))))))
  clear D1 G1
  go_wp2_with fail
  go_at_call 27
  refine (nextD g c xs (p + 3) 7 w1 H1.out.1 (by have := HP.out.2.1; omega) (by decide) (by decide)).mono ?_
  rintro e w2 ⟨k2, rfl, k0, k1, D2, G2⟩
  have l2 : IntKind.i64.wrap (k2 - 1) = k2 - 1 := by rw [IntKind.wrap_i64]; omega
  have H2 : Hid _ := And.intro D2 (And.intro (blk_drawn H1.out.2.1 G2 (by omega)) (And.intro (blk_drawn H1.out.2.2.1 G2 (by omega)) (And.intro (grown_trans H1.out.2.2.2.1 G2) (And.intro (H1.out.1.row H1.out.2.2.2.2.1 G2) (And.intro (H1.out.1.row H1.out.2.2.2.2.2.1 G2) (H1.out.1.row H1.out.2.2.2.2.2.2 G2))))))
  clear D2 G2 k0 k1
  obtain ⟨y0, y1, y2, y3, y4, y5, y6, y7⟩ := hc8 H2.out.2.1
  obtain ⟨u0, u1, u2, u3, u4, u5, u6, u7⟩ := hc8 H2.out.2.2.1
  obtain ⟨f0, f1, f2, f3, f4, f5, f6, f7⟩ := hf8 H2.out.2.2.1
  have fb := bk_free H2.out.2.1 6
  go_wp2
  try simp only [Exit.inBlock, Exit.then]
  refine bodyPost_ret (v := .agg #[.int .i64 a0, .int .i64 a1, .slice c2 n2 p2, .slice c3 n3 p3, .slice c4 n4 p4, .int .i64 a5, .int .i64 (k2 - 1), .int .i64 a7]) ?_ rfl ?_
  · refine results_cell_row (t := 24) rfl _ _ (W.heap.size + 1) _ (fr := (0, 0)) _ rfl ?_ Tryz.underlying24 rfl infoH8
    rw [bk_set (bk_set (bk_set (bk_set (bk_set (bk_set (bk_set (bk_set (blk_off (r := W.heap.size) (i := 6) (u := .int .i64 (k2 - 1)) H2.out.2.2.1 ne2) 0 _) 1 _) 2 _) 3 _) 4 _) 5 _) 6 _) 7 _]
    rfl
  · obtain ⟨e2, e3, e4⟩ : d.length = n2 ∧ s.length = n3 ∧ t.length = n4 := ⟨HP.out.2.2.2.2.2.1, HP.out.2.2.2.2.2.2.1, HP.out.2.2.2.2.2.2.2.1⟩
    have s2 := HP.out.2.2.2.2.2.2.2.2.1
    have s3 := HP.out.2.2.2.2.2.2.2.2.2.1
    have s4 := HP.out.2.2.2.2.2.2.2.2.2.2
    refine ⟨_, ⟨a0, a1, d, s, t, a5, (k2 - 1), a7⟩, rfl, ⟨_, _, _, rfl, ?_, ?_, ?_⟩, ⟨HP.out.2.2.1, HP.out.2.2.2.1, HP.out.2.2.2.2.1⟩, ⟨(by show d.length ≤ 66; omega), (by show s.length ≤ 66; omega), (by show t.length ≤ 66; omega)⟩, ?_, ?_⟩
    · exact rowP_st8 (rowP_hd (i := 6) (u := .int .i64 (k2 - 1)) H2.out.2.2.2.2.1 H2.out.2.1) (blk_off (r := W.heap.size) (i := 6) (u := .int .i64 (k2 - 1)) H2.out.2.2.1 ne2)
    · exact rowP_st8 (rowP_hd (i := 6) (u := .int .i64 (k2 - 1)) H2.out.2.2.2.2.2.1 H2.out.2.1) (blk_off (r := W.heap.size) (i := 6) (u := .int .i64 (k2 - 1)) H2.out.2.2.1 ne2)
    · exact rowP_st8 (rowP_hd (i := 6) (u := .int .i64 (k2 - 1)) H2.out.2.2.2.2.2.2 H2.out.2.1) (blk_off (r := W.heap.size) (i := 6) (u := .int .i64 (k2 - 1)) H2.out.2.2.1 ne2)
    · exact ((((((((((H2.out.1.mono (q := p + 2000) (by omega)).set (i := 6) (u := .int .i64 (k2 - 1)) gl).set (b := W.heap.size + 1) (by omega)).set (b := W.heap.size + 1) (by omega)).set (b := W.heap.size + 1) (by omega)).set (b := W.heap.size + 1) (by omega)).set (b := W.heap.size + 1) (by omega)).set (b := W.heap.size + 1) (by omega)).set (b := W.heap.size + 1) (by omega)).set (b := W.heap.size + 1) (by omega))
    · exact (grownP_set (grownP_set (grownP_set (grownP_set (grownP_set (grownP_set (grownP_set (grownP_set (grownP_set (b := W.heap.size) (i := 6) (u := .int .i64 (k2 - 1)) H2.out.2.2.2.1 (Nat.le_refl _)) (Nat.le_succ _)) (Nat.le_succ _)) (Nat.le_succ _)) (Nat.le_succ _)) (Nat.le_succ _)) (Nat.le_succ _)) (Nat.le_succ _)) (Nat.le_succ _))
set_option maxRecDepth 20000 in
set_option maxHeartbeats 4000000 in
theorem bent_7 (g : Nat) (c : Value) (xs : List Int) (p : Int) (a0 a1 a5 a6 a7 : Int) (c2 c3 c4 : Option Addr) (n2 n3 n4 p2 p3 p4 : Nat) (d s t : List Int) (k : Int) (W : World) (h : Dr W g c xs p) (hp : p ≤ 800000) (r2 : Row W .u8 (.slice c2 n2 p2) d) (r3 : Row W .u8 (.slice c3 n3 p3) s) (r4 : Row W .u8 (.slice c4 n4 p4) t) (e2 : d.length = n2) (e3 : s.length = n3) (e4 : t.length = n4) (bd : Bytes d) (bs : Bytes s) (bt : Bytes t) (s2 : n2 ≤ 66) (s3 : n3 ≤ 66) (s4 : n4 ≤ 66) (hk : k = 7)
    (hn : Calls Tryz.prog 27 #[.pointer (some ⟨g, 0, none⟩), .int .i64 20] ((W.alloc (.cells #[.int .i64 a0, .int .i64 a1, .slice c2 n2 p2, .slice c3 n3 p3, .slice c4 n4 p4, .int .i64 a5, .int .i64 a6, .int .i64 a7] 24)).alloc hdz) fun e w' => e = .returned (.int .i64 k) ∧ Dr w' g c xs (p + 3) ∧ ((W.alloc (.cells #[.int .i64 a0, .int .i64 a1, .slice c2 n2 p2, .slice c3 n3 p3, .slice c4 n4 p4, .int .i64 a5, .int .i64 a6, .int .i64 a7] 24)).alloc hdz).grownBy w' (some g)) :
    Calls Tryz.prog 23 #[.pointer (some ⟨g, 0, none⟩), .agg #[.int .i64 a0, .int .i64 a1, .slice c2 n2 p2, .slice c3 n3 p3, .slice c4 n4 p4, .int .i64 a5, .int .i64 a6, .int .i64 a7]] W fun e w' => ∃ v h8, e = .returned v ∧ HRow w' v h8 ∧ h8.bytes ∧ h8.small 66 ∧ Dr w' g c xs (p + 2000) ∧ W.grownBy w' (some g) := by
  have gl := h.lt
  subst hk
  have ne1 : W.heap.size ≠ W.heap.size + 1 := by omega
  have ne2 : W.heap.size + 1 ≠ W.heap.size := by omega
  have AB : Below W.heap.size W (W.alloc (.cells #[.int .i64 a0, .int .i64 a1, .slice c2 n2 p2, .slice c3 n3 p3, .slice c4 n4 p4, .int .i64 a5, .int .i64 a6, .int .i64 a7] 24)) := (Below.refl _ _).alloc (Nat.le_refl _) _
  have A2 : Below W.heap.size W ((W.alloc (.cells #[.int .i64 a0, .int .i64 a1, .slice c2 n2 p2, .slice c3 n3 p3, .slice c4 n4 p4, .int .i64 a5, .int .i64 a6, .int .i64 a7] 24)).alloc hdz) := AB.alloc AB.size _
  have Z1 : ((W.alloc (.cells #[.int .i64 a0, .int .i64 a1, .slice c2 n2 p2, .slice c3 n3 p3, .slice c4 n4 p4, .int .i64 a5, .int .i64 a6, .int .i64 a7] 24)).alloc hdz).heap[W.heap.size]? = some (.cells #[.int .i64 a0, .int .i64 a1, .slice c2 n2 p2, .slice c3 n3 p3, .slice c4 n4 p4, .int .i64 a5, .int .i64 a6, .int .i64 a7] 24 (0, 0)) := by
    rw [Below.heap_alloc _ _ _ (by simp)]; exact heap_alloc_new W _
  have Z2 : ((W.alloc (.cells #[.int .i64 a0, .int .i64 a1, .slice c2 n2 p2, .slice c3 n3 p3, .slice c4 n4 p4, .int .i64 a5, .int .i64 a6, .int .i64 a7] 24)).alloc hdz).heap[W.heap.size + 1]? = some hdz := by
    have := heap_alloc_new (W.alloc (.cells #[.int .i64 a0, .int .i64 a1, .slice c2 n2 p2, .slice c3 n3 p3, .slice c4 n4 p4, .int .i64 a5, .int .i64 a6, .int .i64 a7] 24)) hdz
    rwa [World.size_alloc] at this
  have H0 : Hid _ := And.intro ((h.alloc (.cells #[.int .i64 a0, .int .i64 a1, .slice c2 n2 p2, .slice c3 n3 p3, .slice c4 n4 p4, .int .i64 a5, .int .i64 a6, .int .i64 a7] 24)).alloc hdz) (And.intro Z1 (And.intro Z2 (And.intro (show W.grownBy ((W.alloc (.cells #[.int .i64 a0, .int .i64 a1, .slice c2 n2 p2, .slice c3 n3 p3, .slice c4 n4 p4, .int .i64 a5, .int .i64 a6, .int .i64 a7] 24)).alloc hdz) (some g) from ⟨A2.os, A2.tape, A2.output, A2.size, fun k hk _ => A2.block k hk⟩) (And.intro (r2.below A2) (And.intro (r3.below A2) (r4.below A2))))))
  have HP : Hid _ := And.intro hn (And.intro hp (And.intro bd (And.intro bs (And.intro bt (And.intro e2 (And.intro e3 (And.intro e4 (And.intro s2 (And.intro s3 s4)))))))))
  clear AB A2 Z1 Z2 h r2 r3 r4 hn hp bd bs bt e2 e3 e4 s2 s3 s4
  go_enter Tryz.func23, Tryz.ntmps23
  go_wp2_with fail
  go_at_call 27
  refine HP.out.1.mono ?_
  rintro e w1 ⟨rfl, D1, G1⟩
  have H1 : Hid _ := And.intro D1 (And.intro (blk_drawn H0.out.2.1 G1 (by omega)) (And.intro (blk_drawn H0.out.2.2.1 G1 (by omega)) (And.intro (grown_trans H0.out.2.2.2.1 G1) (And.intro (H0.out.1.row H0.out.2.2.2.2.1 G1) (And.intro (H0.out.1.row H0.out.2.2.2.2.2.1 G1) (H0.out.1.row H0.out.2.2.2.2.2.2 G1))))))
  clear D1 G1
  go_wp2_with fail
  go_at_call 27
  refine (nextD g c xs (p + 3) 4 w1 H1.out.1 (by have := HP.out.2.1; omega) (by decide) (by decide)).mono ?_
  rintro e w2 ⟨k2, rfl, k0, k1, D2, G2⟩
  have l2 : IntKind.i64.wrap (k2 - 1) = k2 - 1 := by rw [IntKind.wrap_i64]; omega
  have H2 : Hid _ := And.intro D2 (And.intro (blk_drawn H1.out.2.1 G2 (by omega)) (And.intro (blk_drawn H1.out.2.2.1 G2 (by omega)) (And.intro (grown_trans H1.out.2.2.2.1 G2) (And.intro (H1.out.1.row H1.out.2.2.2.2.1 G2) (And.intro (H1.out.1.row H1.out.2.2.2.2.2.1 G2) (H1.out.1.row H1.out.2.2.2.2.2.2 G2))))))
  clear D2 G2 k0 k1
  obtain ⟨y0, y1, y2, y3, y4, y5, y6, y7⟩ := hc8 H2.out.2.1
  obtain ⟨u0, u1, u2, u3, u4, u5, u6, u7⟩ := hc8 H2.out.2.2.1
  obtain ⟨f0, f1, f2, f3, f4, f5, f6, f7⟩ := hf8 H2.out.2.2.1
  have fb := bk_free H2.out.2.1 7
  go_wp2
  try simp only [Exit.inBlock, Exit.then]
  refine bodyPost_ret (v := .agg #[.int .i64 a0, .int .i64 a1, .slice c2 n2 p2, .slice c3 n3 p3, .slice c4 n4 p4, .int .i64 a5, .int .i64 a6, .int .i64 (k2 - 1)]) ?_ rfl ?_
  · refine results_cell_row (t := 24) rfl _ _ (W.heap.size + 1) _ (fr := (0, 0)) _ rfl ?_ Tryz.underlying24 rfl infoH8
    rw [bk_set (bk_set (bk_set (bk_set (bk_set (bk_set (bk_set (bk_set (blk_off (r := W.heap.size) (i := 7) (u := .int .i64 (k2 - 1)) H2.out.2.2.1 ne2) 0 _) 1 _) 2 _) 3 _) 4 _) 5 _) 6 _) 7 _]
    rfl
  · obtain ⟨e2, e3, e4⟩ : d.length = n2 ∧ s.length = n3 ∧ t.length = n4 := ⟨HP.out.2.2.2.2.2.1, HP.out.2.2.2.2.2.2.1, HP.out.2.2.2.2.2.2.2.1⟩
    have s2 := HP.out.2.2.2.2.2.2.2.2.1
    have s3 := HP.out.2.2.2.2.2.2.2.2.2.1
    have s4 := HP.out.2.2.2.2.2.2.2.2.2.2
    refine ⟨_, ⟨a0, a1, d, s, t, a5, a6, (k2 - 1)⟩, rfl, ⟨_, _, _, rfl, ?_, ?_, ?_⟩, ⟨HP.out.2.2.1, HP.out.2.2.2.1, HP.out.2.2.2.2.1⟩, ⟨(by show d.length ≤ 66; omega), (by show s.length ≤ 66; omega), (by show t.length ≤ 66; omega)⟩, ?_, ?_⟩
    · exact rowP_st8 (rowP_hd (i := 7) (u := .int .i64 (k2 - 1)) H2.out.2.2.2.2.1 H2.out.2.1) (blk_off (r := W.heap.size) (i := 7) (u := .int .i64 (k2 - 1)) H2.out.2.2.1 ne2)
    · exact rowP_st8 (rowP_hd (i := 7) (u := .int .i64 (k2 - 1)) H2.out.2.2.2.2.2.1 H2.out.2.1) (blk_off (r := W.heap.size) (i := 7) (u := .int .i64 (k2 - 1)) H2.out.2.2.1 ne2)
    · exact rowP_st8 (rowP_hd (i := 7) (u := .int .i64 (k2 - 1)) H2.out.2.2.2.2.2.2 H2.out.2.1) (blk_off (r := W.heap.size) (i := 7) (u := .int .i64 (k2 - 1)) H2.out.2.2.1 ne2)
    · exact ((((((((((H2.out.1.mono (q := p + 2000) (by omega)).set (i := 7) (u := .int .i64 (k2 - 1)) gl).set (b := W.heap.size + 1) (by omega)).set (b := W.heap.size + 1) (by omega)).set (b := W.heap.size + 1) (by omega)).set (b := W.heap.size + 1) (by omega)).set (b := W.heap.size + 1) (by omega)).set (b := W.heap.size + 1) (by omega)).set (b := W.heap.size + 1) (by omega)).set (b := W.heap.size + 1) (by omega))
    · exact (grownP_set (grownP_set (grownP_set (grownP_set (grownP_set (grownP_set (grownP_set (grownP_set (grownP_set (b := W.heap.size) (i := 7) (u := .int .i64 (k2 - 1)) H2.out.2.2.2.1 (Nat.le_refl _)) (Nat.le_succ _)) (Nat.le_succ _)) (Nat.le_succ _)) (Nat.le_succ _)) (Nat.le_succ _)) (Nat.le_succ _)) (Nat.le_succ _)) (Nat.le_succ _))
set_option maxRecDepth 20000 in
set_option maxHeartbeats 4000000 in
theorem bent_n (g : Nat) (c : Value) (xs : List Int) (p : Int) (a0 a1 a5 a6 a7 : Int) (c2 c3 c4 : Option Addr) (n2 n3 n4 p2 p3 p4 : Nat) (d s t : List Int) (k : Int) (W : World) (h : Dr W g c xs p) (hp : p ≤ 800000) (r2 : Row W .u8 (.slice c2 n2 p2) d) (r3 : Row W .u8 (.slice c3 n3 p3) s) (r4 : Row W .u8 (.slice c4 n4 p4) t) (e2 : d.length = n2) (e3 : s.length = n3) (e4 : t.length = n4) (bd : Bytes d) (bs : Bytes s) (bt : Bytes t) (s2 : n2 ≤ 66) (s3 : n3 ≤ 66) (s4 : n4 ≤ 66) (hk : 8 ≤ k)
    (hn : Calls Tryz.prog 27 #[.pointer (some ⟨g, 0, none⟩), .int .i64 20] ((W.alloc (.cells #[.int .i64 a0, .int .i64 a1, .slice c2 n2 p2, .slice c3 n3 p3, .slice c4 n4 p4, .int .i64 a5, .int .i64 a6, .int .i64 a7] 24)).alloc hdz) fun e w' => e = .returned (.int .i64 k) ∧ Dr w' g c xs (p + 3) ∧ ((W.alloc (.cells #[.int .i64 a0, .int .i64 a1, .slice c2 n2 p2, .slice c3 n3 p3, .slice c4 n4 p4, .int .i64 a5, .int .i64 a6, .int .i64 a7] 24)).alloc hdz).grownBy w' (some g)) :
    Calls Tryz.prog 23 #[.pointer (some ⟨g, 0, none⟩), .agg #[.int .i64 a0, .int .i64 a1, .slice c2 n2 p2, .slice c3 n3 p3, .slice c4 n4 p4, .int .i64 a5, .int .i64 a6, .int .i64 a7]] W fun e w' => ∃ v h8, e = .returned v ∧ HRow w' v h8 ∧ h8.bytes ∧ h8.small 66 ∧ Dr w' g c xs (p + 2000) ∧ W.grownBy w' (some g) := by
  have gl := h.lt
  have t0 : (k == 0) = false := by rw [beq_eq_false_iff_ne]; omega
  have t1 : (k == 1) = false := by rw [beq_eq_false_iff_ne]; omega
  have t2 : (k == 2) = false := by rw [beq_eq_false_iff_ne]; omega
  have t3 : (k == 3) = false := by rw [beq_eq_false_iff_ne]; omega
  have t4 : (k == 4) = false := by rw [beq_eq_false_iff_ne]; omega
  have t5 : (k == 5) = false := by rw [beq_eq_false_iff_ne]; omega
  have t6 : (k == 6) = false := by rw [beq_eq_false_iff_ne]; omega
  have t7 : (k == 7) = false := by rw [beq_eq_false_iff_ne]; omega
  have ne1 : W.heap.size ≠ W.heap.size + 1 := by omega
  have ne2 : W.heap.size + 1 ≠ W.heap.size := by omega
  have AB : Below W.heap.size W (W.alloc (.cells #[.int .i64 a0, .int .i64 a1, .slice c2 n2 p2, .slice c3 n3 p3, .slice c4 n4 p4, .int .i64 a5, .int .i64 a6, .int .i64 a7] 24)) := (Below.refl _ _).alloc (Nat.le_refl _) _
  have A2 : Below W.heap.size W ((W.alloc (.cells #[.int .i64 a0, .int .i64 a1, .slice c2 n2 p2, .slice c3 n3 p3, .slice c4 n4 p4, .int .i64 a5, .int .i64 a6, .int .i64 a7] 24)).alloc hdz) := AB.alloc AB.size _
  have Z1 : ((W.alloc (.cells #[.int .i64 a0, .int .i64 a1, .slice c2 n2 p2, .slice c3 n3 p3, .slice c4 n4 p4, .int .i64 a5, .int .i64 a6, .int .i64 a7] 24)).alloc hdz).heap[W.heap.size]? = some (.cells #[.int .i64 a0, .int .i64 a1, .slice c2 n2 p2, .slice c3 n3 p3, .slice c4 n4 p4, .int .i64 a5, .int .i64 a6, .int .i64 a7] 24 (0, 0)) := by
    rw [Below.heap_alloc _ _ _ (by simp)]; exact heap_alloc_new W _
  have Z2 : ((W.alloc (.cells #[.int .i64 a0, .int .i64 a1, .slice c2 n2 p2, .slice c3 n3 p3, .slice c4 n4 p4, .int .i64 a5, .int .i64 a6, .int .i64 a7] 24)).alloc hdz).heap[W.heap.size + 1]? = some hdz := by
    have := heap_alloc_new (W.alloc (.cells #[.int .i64 a0, .int .i64 a1, .slice c2 n2 p2, .slice c3 n3 p3, .slice c4 n4 p4, .int .i64 a5, .int .i64 a6, .int .i64 a7] 24)) hdz
    rwa [World.size_alloc] at this
  have H0 : Hid _ := And.intro ((h.alloc (.cells #[.int .i64 a0, .int .i64 a1, .slice c2 n2 p2, .slice c3 n3 p3, .slice c4 n4 p4, .int .i64 a5, .int .i64 a6, .int .i64 a7] 24)).alloc hdz) (And.intro Z1 (And.intro Z2 (And.intro (show W.grownBy ((W.alloc (.cells #[.int .i64 a0, .int .i64 a1, .slice c2 n2 p2, .slice c3 n3 p3, .slice c4 n4 p4, .int .i64 a5, .int .i64 a6, .int .i64 a7] 24)).alloc hdz) (some g) from ⟨A2.os, A2.tape, A2.output, A2.size, fun k hk _ => A2.block k hk⟩) (And.intro (r2.below A2) (And.intro (r3.below A2) (r4.below A2))))))
  have HP : Hid _ := And.intro hn (And.intro hp (And.intro bd (And.intro bs (And.intro bt (And.intro e2 (And.intro e3 (And.intro e4 (And.intro s2 (And.intro s3 s4)))))))))
  clear AB A2 Z1 Z2 h r2 r3 r4 hn hp bd bs bt e2 e3 e4 s2 s3 s4
  go_enter Tryz.func23, Tryz.ntmps23
  go_wp2_with fail
  go_at_call 27
  refine HP.out.1.mono ?_
  rintro e w1 ⟨rfl, D1, G1⟩
  have H1 : Hid _ := And.intro D1 (And.intro (blk_drawn H0.out.2.1 G1 (by omega)) (And.intro (blk_drawn H0.out.2.2.1 G1 (by omega)) (And.intro (grown_trans H0.out.2.2.2.1 G1) (And.intro (H0.out.1.row H0.out.2.2.2.2.1 G1) (And.intro (H0.out.1.row H0.out.2.2.2.2.2.1 G1) (H0.out.1.row H0.out.2.2.2.2.2.2 G1))))))
  clear D1 G1
  obtain ⟨y0, y1, y2, y3, y4, y5, y6, y7⟩ := hc8 H1.out.2.1
  obtain ⟨u0, u1, u2, u3, u4, u5, u6, u7⟩ := hc8 H1.out.2.2.1
  obtain ⟨f0, f1, f2, f3, f4, f5, f6, f7⟩ := hf8 H1.out.2.2.1
  go_wp2
  try simp only [Exit.inBlock, Exit.then]
  refine bodyPost_ret (v := .agg #[.int .i64 a0, .int .i64 a1, .slice c2 n2 p2, .slice c3 n3 p3, .slice c4 n4 p4, .int .i64 a5, .int .i64 a6, .int .i64 a7]) ?_ rfl ?_
  · refine results_cell_row (t := 24) rfl _ _ (W.heap.size + 1) _ (fr := (0, 0)) _ rfl ?_ Tryz.underlying24 rfl infoH8
    rw [bk_set (bk_set (bk_set (bk_set (bk_set (bk_set (bk_set (bk_set H1.out.2.2.1 0 _) 1 _) 2 _) 3 _) 4 _) 5 _) 6 _) 7 _]
    rfl
  · obtain ⟨e2, e3, e4⟩ : d.length = n2 ∧ s.length = n3 ∧ t.length = n4 := ⟨HP.out.2.2.2.2.2.1, HP.out.2.2.2.2.2.2.1, HP.out.2.2.2.2.2.2.2.1⟩
    have s2 := HP.out.2.2.2.2.2.2.2.2.1
    have s3 := HP.out.2.2.2.2.2.2.2.2.2.1
    have s4 := HP.out.2.2.2.2.2.2.2.2.2.2
    refine ⟨_, ⟨a0, a1, d, s, t, a5, a6, a7⟩, rfl, ⟨_, _, _, rfl, ?_, ?_, ?_⟩, ⟨HP.out.2.2.1, HP.out.2.2.2.1, HP.out.2.2.2.2.1⟩, ⟨(by show d.length ≤ 66; omega), (by show s.length ≤ 66; omega), (by show t.length ≤ 66; omega)⟩, ?_, ?_⟩
    · exact rowP_st8 H1.out.2.2.2.2.1 H1.out.2.2.1
    · exact rowP_st8 H1.out.2.2.2.2.2.1 H1.out.2.2.1
    · exact rowP_st8 H1.out.2.2.2.2.2.2 H1.out.2.2.1
    · exact (((((((((H1.out.1.mono (q := p + 2000) (by omega)).set (b := W.heap.size + 1) (by omega)).set (b := W.heap.size + 1) (by omega)).set (b := W.heap.size + 1) (by omega)).set (b := W.heap.size + 1) (by omega)).set (b := W.heap.size + 1) (by omega)).set (b := W.heap.size + 1) (by omega)).set (b := W.heap.size + 1) (by omega)).set (b := W.heap.size + 1) (by omega))
    · exact (grownP_set (grownP_set (grownP_set (grownP_set (grownP_set (grownP_set (grownP_set (grownP_set H1.out.2.2.2.1 (Nat.le_succ _)) (Nat.le_succ _)) (Nat.le_succ _)) (Nat.le_succ _)) (Nat.le_succ _)) (Nat.le_succ _)) (Nat.le_succ _)) (Nat.le_succ _))
theorem bentD (g : Nat) (c : Value) (xs : List Int) (p : Int) (v : Value) (h8 : H8) (W : World) (h : Dr W g c xs p) (hp : p ≤ 800000) (hr : HRow W v h8) (hb : h8.bytes) (hs : h8.small 66) :
    Calls Tryz.prog 23 #[.pointer (some ⟨g, 0, none⟩), v] W fun e w' => ∃ v h8, e = .returned v ∧ HRow w' v h8 ∧ h8.bytes ∧ h8.small 66 ∧ Dr w' g c xs (p + 2000) ∧ W.grownBy w' (some g) := by
  obtain ⟨v2, v3, v4, rfl, r2, r3, r4⟩ := hr
  obtain ⟨c2, p2, rfl⟩ := r2.form
  obtain ⟨c3, p3, rfl⟩ := r3.form
  obtain ⟨c4, p4, rfl⟩ := r4.form
  obtain ⟨a0, a1, d, s, t, a5, a6, a7⟩ := h8
  obtain ⟨b2, b3, b4⟩ := hb
  obtain ⟨l2, l3, l4⟩ := hs
  obtain ⟨lo, st, hd, hst⟩ := id h
  have hn := nextC g c xs 20 st ((W.alloc (.cells #[.int .i64 a0, .int .i64 a1, .slice c2 d.length p2, .slice c3 s.length p3, .slice c4 t.length p4, .int .i64 a5, .int .i64 a6, .int .i64 a7] 24)).alloc hdz) (drw_alloc (drw_alloc hd _) _) (by omega) (by decide) (by decide)
  have bd := nextV_bd xs 20 st (by decide)
  have q := nextS_pos xs 20 st
  have hn' := hn.mono (fun e w' (hh : _ ∧ _ ∧ _) => (show e = .returned (.int .i64 (nextV xs 20 st)) ∧ Dr w' g c xs (p + 3) ∧ _ from ⟨hh.1, ⟨lo, _, hh.2.1, by omega⟩, hh.2.2⟩))
  generalize nextV xs 20 st = k at hn' bd
  by_cases k0 : k = 0
  · exact bent_0 g c xs p a0 a1 a5 a6 a7 c2 c3 c4 _ _ _ p2 p3 p4 d s t k W h hp r2 r3 r4 rfl rfl rfl b2 b3 b4 l2 l3 l4 k0 hn'
  by_cases k1 : k = 1
  · exact bent_1 g c xs p a0 a1 a5 a6 a7 c2 c3 c4 _ _ _ p2 p3 p4 d s t k W h hp r2 r3 r4 rfl rfl rfl b2 b3 b4 l2 l3 l4 k1 hn'
  by_cases k2 : k = 2
  · exact bent_2 g c xs p a0 a1 a5 a6 a7 c2 c3 c4 _ _ _ p2 p3 p4 d s t k W h hp r2 r3 r4 rfl rfl rfl b2 b3 b4 l2 l3 l4 k2 hn'
  by_cases k3 : k = 3
  · exact bent_3 g c xs p a0 a1 a5 a6 a7 c2 c3 c4 _ _ _ p2 p3 p4 d s t k W h hp r2 r3 r4 rfl rfl rfl b2 b3 b4 l2 l3 l4 k3 hn'
  by_cases k4 : k = 4
  · exact bent_4 g c xs p a0 a1 a5 a6 a7 c2 c3 c4 _ _ _ p2 p3 p4 d s t k W h hp r2 r3 r4 rfl rfl rfl b2 b3 b4 l2 l3 l4 k4 hn'
  by_cases k5 : k = 5
  · exact bent_5 g c xs p a0 a1 a5 a6 a7 c2 c3 c4 _ _ _ p2 p3 p4 d s t k W h hp r2 r3 r4 rfl rfl rfl b2 b3 b4 l2 l3 l4 k5 hn'
  by_cases k6 : k = 6
  · exact bent_6 g c xs p a0 a1 a5 a6 a7 c2 c3 c4 _ _ _ p2 p3 p4 d s t k W h hp r2 r3 r4 rfl rfl rfl b2 b3 b4 l2 l3 l4 k6 hn'
  by_cases k7 : k = 7
  · exact bent_7 g c xs p a0 a1 a5 a6 a7 c2 c3 c4 _ _ _ p2 p3 p4 d s t k W h hp r2 r3 r4 rfl rfl rfl b2 b3 b4 l2 l3 l4 k7 hn'
  exact bent_n g c xs p a0 a1 a5 a6 a7 c2 c3 c4 _ _ _ p2 p3 p4 d s t k W h hp r2 r3 r4 rfl rfl rfl b2 b3 b4 l2 l3 l4 (by omega) hn'
end Go.Proofs.YtoalillggafnpaaGreatDoor

namespace Go.Proofs.YtoalillggafnpaaGreatDoor
open Go.RowKit
set_option linter.unusedVariables false

theorem grownP_below {w w' : World} (h : Below w.heap.size w w') (r : Option Nat) : w.grownBy w' r := ⟨h.os, h.tape, h.output, h.size, fun k hk _ => h.block k hk⟩
theorem Dr.kept {W W' : World} {g : Nat} {c : Value} {xs : List Int} {p : Int} (h : Dr W g c xs p) (hb : Below W.heap.size W W') : Dr W' g c xs p := by
  obtain ⟨l, s, hd, hp⟩ := h
  exact ⟨l, s, hd.kept (grownP_below hb none) (by simp) (by intros; simp), hp⟩
theorem belowP_drew (W : World) : Below W.heap.size W W.drew := ⟨rfl, rfl, rfl, Nat.le_refl _, fun _ _ => rfl⟩
theorem dr_new {w : World} {v : Value} {xs : List Int} (hrow : Row w .u8 v xs) (hB : Bytes xs) (hl : xs.length ≤ 1048576) :
    Dr (w.alloc (.cells #[v, .int .i64 0, .int .i64 ((xs.length : Int) % 1000)] 83)) w.heap.size v xs 0 := by
  refine ⟨?_, _, drw_new hrow hB hl, Int.le_refl 0⟩
  intro b off n cap h0 e
  rcases hrow with ⟨rfl, ao, cap', e'⟩ | ⟨b', off', cap', e', hb, _⟩
  · rw [e] at e'; cases e'; omega
  · rw [e] at e'; cases e'; omega
theorem results_row_tmpD {P : Program} {fn : Func} {p q : Tmp} {ty : TypeId} (h : fn.results = #[.cell p ty, .tmp q]) (tmps : Array Value) (w : World) (g : Nat) (t : TypeId) (cs : Array Value) (fr : Nat × Nat) (d : TypeDesc) (u : Value)
    (hp : tmps.getD p undef = .pointer (some ⟨g, 0, none⟩)) (hq : tmps.getD q undef = u) (hg : w.heap[g]? = some (.cells cs t fr))
    (hu : P.underlying ty = some d) (hd : (match d with | .struct _ | .array _ _ => true | _ => false) = true) (hi : (P.info? ty).map (·.size) = some cs.size) :
    (results fn tmps).run P w = .ok (.tuple #[.agg cs, u]) w := by
  have hp' : tmps[p]?.getD undef = .pointer (some ⟨g, 0, none⟩) := by simpa using hp
  have hq' : tmps[q]?.getD undef = u := by simpa using hq
  simp [results, h, hp', hq', asAddr, run_loadVar_row w g t ty cs fr d hg hu hd hi]
set_option maxRecDepth 20000 in
set_option maxHeartbeats 4000000 in
theorem drawRetryC (v : Value) (xs : List Int) (w : World) (hrow : Row w .u8 v xs) (hB : Bytes xs) (hl : xs.length ≤ 1048576) :
    Calls Tryz.prog 4 #[v] w fun e w' => ∃ vh vo h8 o, e = .returned (.tuple #[vh, vo]) ∧ HRow w' vh h8 ∧ h8.bytes ∧ h8.small 66 ∧ Row w' .u8 vo o ∧ Bytes o ∧ o.length ≤ 9 ∧ Below w.heap.size w w' := by
  have A0 : Below w.heap.size w (w.alloc hdz) := (Below.refl _ _).alloc (Nat.le_refl _) _
  have S0 := sourceC v xs _ (hrow.below A0) hB hl
  have D0 := dr_new (hrow.below A0) hB hl
  rw [World.size_alloc] at S0 D0
  have Z0 := blk_alloc (heap_alloc_new w hdz) (.cells #[v, .int .i64 0, .int .i64 ((xs.length : Int) % 1000)] 83)
  have H0 : Hid _ := And.intro S0 (And.intro D0 (And.intro Z0 (A0.alloc A0.size (.cells #[v, .int .i64 0, .int .i64 ((xs.length : Int) % 1000)] 83))))
  clear S0 D0 Z0 A0 hrow hB hl
  go_enter Tryz.func4, Tryz.ntmps4
  go_wp2_with fail
  go_at_call 22
  refine H0.out.1.mono ?_
  rintro e w1 ⟨rfl, hw1⟩
  have H1 : Hid _ := And.intro (show Dr w1 (w.heap.size + 1) v xs 0 by rw [hw1]; exact H0.out.2.1) (And.intro (show w1.heap[w.heap.size]? = some hdz by rw [hw1]; exact H0.out.2.2.1) (show Below w.heap.size w w1 by rw [hw1]; exact H0.out.2.2.2))
  clear hw1
  go_wp2_with fail
  go_at_call 24
  refine (drRetryD (w.heap.size + 1) v xs 0 w1 H1.out.1 (by decide)).mono ?_
  rintro e w2 ⟨v2, h2, rfl, R2, B2, S2, D2, G2⟩
  have H2 : Hid _ := And.intro D2 (And.intro (blk_drawn H1.out.2.1 G2 (by omega)) (And.intro (H1.out.2.2.grown G2 H1.out.2.2.size (fun q hq => by have := Option.some.inj hq; omega)) (And.intro R2 (And.intro B2 S2))))
  clear R2 B2 S2 D2 G2
  go_wp2_with fail
  go_at_call 23
  refine (bentD (w.heap.size + 1) v xs (0 + 4000) v2 h2 w2 H2.out.1 (by decide) H2.out.2.2.2.1 H2.out.2.2.2.2.1 H2.out.2.2.2.2.2).mono ?_
  rintro e w3 ⟨v3, h3, rfl, R3, B3, S3, D3, G3⟩
  obtain ⟨u2, u3, u4, rfl, q2, q3, q4⟩ := R3
  obtain ⟨c2, p2, rfl⟩ := q2.form
  obtain ⟨c3, p3, rfl⟩ := q3.form
  obtain ⟨c4, p4, rfl⟩ := q4.form
  obtain ⟨a0, a1, d, s, t, a5, a6, a7⟩ := h3
  obtain ⟨b2, b3, b4⟩ := B3
  obtain ⟨l2, l3, l4⟩ := S3
  have gl3 := D3.lt
  have A3 : Below w3.heap.size w3 (w3.alloc (.cells #[.int .i64 a0, .int .i64 a1, .slice c2 d.length p2, .slice c3 s.length p3, .slice c4 t.length p4, .int .i64 a5, .int .i64 a6, .int .i64 a7] 24)) := (Below.refl _ _).alloc (Nat.le_refl _) _
  have H3 : Hid _ := And.intro (D3.kept A3) (And.intro (blk_alloc (blk_drawn H2.out.2.1 G3 (by omega)) (.cells #[.int .i64 a0, .int .i64 a1, .slice c2 d.length p2, .slice c3 s.length p3, .slice c4 t.length p4, .int .i64 a5, .int .i64 a6, .int .i64 a7] 24)) (And.intro (show Below w.heap.size w (w3.alloc (.cells #[.int .i64 a0, .int .i64 a1, .slice c2 d.length p2, .slice c3 s.length p3, .slice c4 t.length p4, .int .i64 a5, .int .i64 a6, .int .i64 a7] 24)) from (H2.out.2.2.1.grown G3 H2.out.2.2.1.size (fun q hq => by have := Option.some.inj hq; omega)).alloc (H2.out.2.2.1.grown G3 H2.out.2.2.1.size (fun q hq => by have := Option.some.inj hq; omega)).size _) (And.intro (q2.below A3) (And.intro (q3.below A3) (And.intro (q4.below A3) (heap_alloc_new w3 (.cells #[.int .i64 a0, .int .i64 a1, .slice c2 d.length p2, .slice c3 s.length p3, .slice c4 t.length p4, .int .i64 a5, .int .i64 a6, .int .i64 a7] 24)))))))
  have HB : Hid _ := And.intro b2 (And.intro b3 (And.intro b4 (And.intro l2 (And.intro l3 l4))))
  clear A3 D3 G3 q2 q3 q4 b2 b3 b4 l2 l3 l4
  go_wp2_with fail
  obtain ⟨x5, e5⟩ : ∃ x5, x5 = w3.heap.size := ⟨_, rfl⟩
  have w3lt : w.heap.size + 1 < x5 := by omega
  generalize w3.alloc (.cells #[.int .i64 a0, .int .i64 a1, .slice c2 d.length p2, .slice c3 s.length p3, .slice c4 t.length p4, .int .i64 a5, .int .i64 a6, .int .i64 a7] 24) = W3 at H3 ⊢
  rw [← e5] at H3 ⊢
  clear e5 gl3
  go_at_call 25
  refine (chanceD (w.heap.size + 1) v xs _ 10 W3 H3.out.1 (by decide) (by decide) (by decide)).mono ?_
  rintro e w4 ⟨bc, rfl, D4, G4⟩
  have H4 : Hid _ := And.intro D4 (And.intro (blk_drawn H3.out.2.1 G4 (by omega)) (And.intro (H3.out.2.2.1.grown G4 H3.out.2.2.1.size (fun q hq => by have := Option.some.inj hq; omega)) (And.intro (H3.out.1.row H3.out.2.2.2.1 G4) (And.intro (H3.out.1.row H3.out.2.2.2.2.1 G4) (And.intro (H3.out.1.row H3.out.2.2.2.2.2.1 G4) (blk_drawn H3.out.2.2.2.2.2.2 G4 (by omega)))))))
  clear D4 G4
  have ne5 : x5 ≠ w.heap.size := by omega
  have ne6 : w.heap.size ≠ x5 := by omega
  cases bc

  · have DB : Below w4.heap.size w4 w4.drew := belowP_drew w4
    have HX : Hid _ := And.intro (H4.out.1.kept DB) (And.intro (show w4.drew.heap[w.heap.size]? = some hdz from H4.out.2.1) (And.intro (show Below w.heap.size w w4.drew from H4.out.2.2.1.trans (DB.mono H4.out.2.2.1.size)) (And.intro (H4.out.2.2.2.1.below DB) (And.intro (H4.out.2.2.2.2.1.below DB) (And.intro (H4.out.2.2.2.2.2.1.below DB) (show w4.drew.heap[x5]? = some (.cells #[.int .i64 a0, .int .i64 a1, .slice c2 d.length p2, .slice c3 s.length p3, .slice c4 t.length p4, .int .i64 a5, .int .i64 a6, .int .i64 a7] 24 (0, 0)) from H4.out.2.2.2.2.2.2))))))
    obtain ⟨g0, g1, g2, g3, g4, g5, g6, g7⟩ := hc8 HX.out.2.2.2.2.2.2
    clear DB
    go_upto_region 5 with fail
    go_region_held3 (fun w' => w'.cell? ⟨x5, 0, none⟩ = some (.int .i64 a0) ∧ w'.cell? ⟨x5, 1, none⟩ = some (.int .i64 a1) ∧ w'.cell? ⟨x5, 2, none⟩ = some (.slice c2 d.length p2) ∧ w'.cell? ⟨x5, 3, none⟩ = some (.slice c3 s.length p3) ∧ w'.cell? ⟨x5, 4, none⟩ = some (.slice c4 t.length p4) ∧ w'.cell? ⟨x5, 5, none⟩ = some (.int .i64 a5) ∧ w'.cell? ⟨x5, 6, none⟩ = some (.int .i64 a6) ∧ w'.cell? ⟨x5, 7, none⟩ = some (.int .i64 a7)) (go_keep)
      (first | (go_at_call 26; refine (bytesD (w.heap.size + 1) v xs ((0 + 4000 + 2000 + 3) + 3 + 3) k2 wy2 HY2.out.1 (by decide) K2.out.1 (by have := K2.out.2; omega)).mono ?_; rintro e wy3 ⟨ca, pa, ys, rfl, RY, ly, BY, D3, G3⟩; have HY3 : Hid _ := And.intro D3 (And.intro (blk_drawn HY2.out.2.1 G3 (by omega)) (And.intro (HY2.out.2.2.1.grown G3 HY2.out.2.2.1.size (fun q hq => by have := Option.some.inj hq; omega)) (And.intro (HY2.out.1.row HY2.out.2.2.2.1 G3) (And.intro (HY2.out.1.row HY2.out.2.2.2.2.1 G3) (And.intro (HY2.out.1.row HY2.out.2.2.2.2.2.1 G3) (blk_drawn HY2.out.2.2.2.2.2.2 G3 (by omega))))))); obtain ⟨y30, y31, y32, y33, y34, y35, y36, y37⟩ := hc8 HY3.out.2.2.2.2.2.2; clear D3 G3; have HO : Hid _ := And.intro RY (And.intro BY (show ys.length ≤ 9 by have := K2.out.2; omega)); clear RY BY ly; obtain ⟨u0, u1, u2, u3, u4, u5, u6, u7⟩ := hc8 HY3.out.2.1; obtain ⟨f0, f1, f2, f3, f4, f5, f6, f7⟩ := hf8 HY3.out.2.1) | (go_at_call 27; (fail_if_success (have hyy := HY1)); refine (nextD (w.heap.size + 1) v xs (0 + 4000 + 2000 + 3) 20 w4.drew HX.out.1 (by decide) (by decide) (by decide)).mono ?_; rintro e wy1 ⟨k1, rfl, k10, k11, D1, G1⟩; have HY1 : Hid _ := And.intro D1 (And.intro (blk_drawn HX.out.2.1 G1 (by omega)) (And.intro (HX.out.2.2.1.grown G1 HX.out.2.2.1.size (fun q hq => by have := Option.some.inj hq; omega)) (And.intro (HX.out.1.row HX.out.2.2.2.1 G1) (And.intro (HX.out.1.row HX.out.2.2.2.2.1 G1) (And.intro (HX.out.1.row HX.out.2.2.2.2.2.1 G1) (blk_drawn HX.out.2.2.2.2.2.2 G1 (by omega))))))); obtain ⟨y10, y11, y12, y13, y14, y15, y16, y17⟩ := hc8 HY1.out.2.2.2.2.2.2; clear D1 G1; have lq3 : IntKind.i64.wrap (9 + IntKind.i64.wrap (k1 / 19)) = 9 + k1 / 19 := (by rw [IntKind.wrap_i64, IntKind.wrap_i64]; omega); have lq2 : k1.tdiv 19 = k1 / 19 := Int.tdiv_eq_ediv_of_nonneg k10; have K1 : Hid _ := And.intro k10 (And.intro k11 lq3); clear k10 k11 lq3) | (go_at_call 27; have hyy := HY1; clear hyy; rw [K1.out.2.2]; refine (nextD (w.heap.size + 1) v xs ((0 + 4000 + 2000 + 3) + 3) (9 + k1 / 19) wy1 HY1.out.1 (by decide) (by have := K1.out.1; omega) (by have := K1.out.2.1; omega)).mono ?_; rintro e wy2 ⟨k2, rfl, k20, k21, D2, G2⟩; have HY2 : Hid _ := And.intro D2 (And.intro (blk_drawn HY1.out.2.1 G2 (by omega)) (And.intro (HY1.out.2.2.1.grown G2 HY1.out.2.2.1.size (fun q hq => by have := Option.some.inj hq; omega)) (And.intro (HY1.out.1.row HY1.out.2.2.2.1 G2) (And.intro (HY1.out.1.row HY1.out.2.2.2.2.1 G2) (And.intro (HY1.out.1.row HY1.out.2.2.2.2.2.1 G2) (blk_drawn HY1.out.2.2.2.2.2.2 G2 (by omega))))))); obtain ⟨y20, y21, y22, y23, y24, y25, y26, y27⟩ := hc8 HY2.out.2.2.2.2.2.2; clear D2 G2; have K2 : Hid _ := And.intro k20 (show k2 ≤ 9 by have := K1.out.2.1; omega); clear k20 k21))
    all_goals
      go_wp2
      try simp only [Exit.inBlock, Exit.then]
      refine bodyPost_ret (v := .tuple #[.agg #[.int .i64 a0, .int .i64 a1, .slice c2 d.length p2, .slice c3 s.length p3, .slice c4 t.length p4, .int .i64 a5, .int .i64 a6, .int .i64 a7], .slice ca ys.length pa]) ?_ rfl ?_
      · refine results_row_tmpD (t := 24) rfl _ _ w.heap.size _ (fr := (0, 0)) _ _ rfl rfl ?_ Tryz.underlying24 rfl infoH8
        rw [bk_set (bk_set (bk_set (bk_set (bk_set (bk_set (bk_set (bk_set HY3.out.2.1 0 _) 1 _) 2 _) 3 _) 4 _) 5 _) 6 _) 7 _]
        rfl
      · refine ⟨_, _, ⟨a0, a1, d, s, t, a5, a6, a7⟩, ys, rfl, ⟨_, _, _, rfl, ?_, ?_, ?_⟩, ⟨HB.out.1, HB.out.2.1, HB.out.2.2.1⟩, ⟨HB.out.2.2.2.1, HB.out.2.2.2.2.1, HB.out.2.2.2.2.2⟩, ?_, HO.out.2.1, HO.out.2.2, ?_⟩
        · exact rowP_st8 HY3.out.2.2.2.1 HY3.out.2.1
        · exact rowP_st8 HY3.out.2.2.2.2.1 HY3.out.2.1
        · exact rowP_st8 HY3.out.2.2.2.2.2.1 HY3.out.2.1
        · exact rowP_st8 HO.out.1 HY3.out.2.1
        · exact (((((((HY3.out.2.2.1.setCell (Nat.le_refl _) _).setCell (Nat.le_refl _) _).setCell (Nat.le_refl _) _).setCell (Nat.le_refl _) _).setCell (Nat.le_refl _) _).setCell (Nat.le_refl _) _).setCell (Nat.le_refl _) _).setCell (Nat.le_refl _) _
  · have x5l : x5 < w4.heap.size := (Array.getElem?_eq_some_iff.1 H4.out.2.2.2.2.2.2).1
    have cb : w4.cell? ⟨x5, 4, none⟩ = some (.slice c4 t.length p4) := (hc8 H4.out.2.2.2.2.2.2).2.2.2.2.1
    have fb : w4.frozen? ⟨x5, 4, none⟩ = false := bk_free H4.out.2.2.2.2.2.2 4
    have Zs := (bk_set H4.out.2.2.2.2.2.2 4 (.slice (some ⟨w4.heap.size, 0, none⟩) 0 0)).trans (congrArg (fun x => some (Obj.cells x 24 (0, 0))) (show _ = #[.int .i64 a0, .int .i64 a1, .slice c2 d.length p2, .slice c3 s.length p3, .slice (some ⟨w4.heap.size, 0, none⟩) 0 0, .int .i64 a5, .int .i64 a6, .int .i64 a7] by simp))
    have A4 : Below w4.heap.size (w4.setCell ⟨x5, 4, none⟩ (.slice (some ⟨w4.heap.size, 0, none⟩) 0 0)) ((w4.setCell ⟨x5, 4, none⟩ (.slice (some ⟨w4.heap.size, 0, none⟩) 0 0)).alloc (.cells #[] 5)) := (Below.refl _ _).alloc (by simp [World.setCell]) _
    have es : (w4.setCell ⟨x5, 4, none⟩ (.slice (some ⟨w4.heap.size, 0, none⟩) 0 0)).heap.size = w4.heap.size := by simp [World.setCell]
    have A5 : Below (w4.setCell ⟨x5, 4, none⟩ (.slice (some ⟨w4.heap.size, 0, none⟩) 0 0)).heap.size (w4.setCell ⟨x5, 4, none⟩ (.slice (some ⟨w4.heap.size, 0, none⟩) 0 0)) ((w4.setCell ⟨x5, 4, none⟩ (.slice (some ⟨w4.heap.size, 0, none⟩) 0 0)).alloc (.cells #[] 5)) := by rw [es]; exact A4
    have B4 : Below w.heap.size w (w4.setCell ⟨x5, 4, none⟩ (.slice (some ⟨w4.heap.size, 0, none⟩) 0 0)) := H4.out.2.2.1.setCell (show w.heap.size ≤ x5 by omega) _
    have HE : Hid _ := And.intro (((H4.out.1.set (b := x5) (i := 4) (u := .slice (some ⟨w4.heap.size, 0, none⟩) 0 0) (by omega))).kept A5) (And.intro (blk_alloc (blk_off (r := x5) (i := 4) (u := .slice (some ⟨w4.heap.size, 0, none⟩) 0 0) H4.out.2.1 ne6) (.cells #[] 5)) (And.intro (show Below w.heap.size w ((w4.setCell ⟨x5, 4, none⟩ (.slice (some ⟨w4.heap.size, 0, none⟩) 0 0)).alloc (.cells #[] 5)) from B4.trans (A5.mono B4.size)) (And.intro ((rowP_hd (i := 4) (u := .slice (some ⟨w4.heap.size, 0, none⟩) 0 0) H4.out.2.2.2.1 H4.out.2.2.2.2.2.2).below A5) (And.intro ((rowP_hd (i := 4) (u := .slice (some ⟨w4.heap.size, 0, none⟩) 0 0) H4.out.2.2.2.2.1 H4.out.2.2.2.2.2.2).below A5) (And.intro (show Row ((w4.setCell ⟨x5, 4, none⟩ (.slice (some ⟨w4.heap.size, 0, none⟩) 0 0)).alloc (.cells #[] 5)) .u8 (.slice (some ⟨w4.heap.size, 0, none⟩) 0 0) [] from Or.inl ⟨rfl, _, _, rfl⟩) (blk_alloc Zs (.cells #[] 5)))))))
    clear A4 A5 B4 Zs es
    go_upto_region 5 with fail
    generalize (w4.setCell ⟨x5, 4, none⟩ (.slice (some ⟨w4.heap.size, 0, none⟩) 0 0)).alloc (.cells #[] 5) = WE at HE ⊢
    have DB : Below WE.heap.size WE WE.drew := belowP_drew WE
    have HX : Hid _ := And.intro (HE.out.1.kept DB) (And.intro (show WE.drew.heap[w.heap.size]? = some hdz from HE.out.2.1) (And.intro (show Below w.heap.size w WE.drew from HE.out.2.2.1.trans (DB.mono HE.out.2.2.1.size)) (And.intro (HE.out.2.2.2.1.below DB) (And.intro (HE.out.2.2.2.2.1.below DB) (And.intro (HE.out.2.2.2.2.2.1.below DB) (show WE.drew.heap[x5]? = some (.cells #[.int .i64 a0, .int .i64 a1, .slice c2 d.length p2, .slice c3 s.length p3, .slice (some ⟨w4.heap.size, 0, none⟩) 0 0, .int .i64 a5, .int .i64 a6, .int .i64 a7] 24 (0, 0)) from HE.out.2.2.2.2.2.2))))))
    obtain ⟨g0, g1, g2, g3, g4, g5, g6, g7⟩ := hc8 HX.out.2.2.2.2.2.2
    clear DB
    go_region_held3 (fun w' => w'.cell? ⟨x5, 0, none⟩ = some (.int .i64 a0) ∧ w'.cell? ⟨x5, 1, none⟩ = some (.int .i64 a1) ∧ w'.cell? ⟨x5, 2, none⟩ = some (.slice c2 d.length p2) ∧ w'.cell? ⟨x5, 3, none⟩ = some (.slice c3 s.length p3) ∧ w'.cell? ⟨x5, 4, none⟩ = some (.slice (some ⟨w4.heap.size, 0, none⟩) 0 0) ∧ w'.cell? ⟨x5, 5, none⟩ = some (.int .i64 a5) ∧ w'.cell? ⟨x5, 6, none⟩ = some (.int .i64 a6) ∧ w'.cell? ⟨x5, 7, none⟩ = some (.int .i64 a7)) (go_keep)
      (first | (go_at_call 26; refine (bytesD (w.heap.size + 1) v xs ((0 + 4000 + 2000 + 3) + 3 + 3) k2 wy2 HY2.out.1 (by decide) K2.out.1 (by have := K2.out.2; omega)).mono ?_; rintro e wy3 ⟨ca, pa, ys, rfl, RY, ly, BY, D3, G3⟩; have HY3 : Hid _ := And.intro D3 (And.intro (blk_drawn HY2.out.2.1 G3 (by omega)) (And.intro (HY2.out.2.2.1.grown G3 HY2.out.2.2.1.size (fun q hq => by have := Option.some.inj hq; omega)) (And.intro (HY2.out.1.row HY2.out.2.2.2.1 G3) (And.intro (HY2.out.1.row HY2.out.2.2.2.2.1 G3) (And.intro (HY2.out.1.row HY2.out.2.2.2.2.2.1 G3) (blk_drawn HY2.out.2.2.2.2.2.2 G3 (by omega))))))); obtain ⟨y30, y31, y32, y33, y34, y35, y36, y37⟩ := hc8 HY3.out.2.2.2.2.2.2; clear D3 G3; have HO : Hid _ := And.intro RY (And.intro BY (show ys.length ≤ 9 by have := K2.out.2; omega)); clear RY BY ly; obtain ⟨u0, u1, u2, u3, u4, u5, u6, u7⟩ := hc8 HY3.out.2.1; obtain ⟨f0, f1, f2, f3, f4, f5, f6, f7⟩ := hf8 HY3.out.2.1) | (go_at_call 27; (fail_if_success (have hyy := HY1)); refine (nextD (w.heap.size + 1) v xs (0 + 4000 + 2000 + 3) 20 WE.drew HX.out.1 (by decide) (by decide) (by decide)).mono ?_; rintro e wy1 ⟨k1, rfl, k10, k11, D1, G1⟩; have HY1 : Hid _ := And.intro D1 (And.intro (blk_drawn HX.out.2.1 G1 (by omega)) (And.intro (HX.out.2.2.1.grown G1 HX.out.2.2.1.size (fun q hq => by have := Option.some.inj hq; omega)) (And.intro (HX.out.1.row HX.out.2.2.2.1 G1) (And.intro (HX.out.1.row HX.out.2.2.2.2.1 G1) (And.intro (HX.out.1.row HX.out.2.2.2.2.2.1 G1) (blk_drawn HX.out.2.2.2.2.2.2 G1 (by omega))))))); obtain ⟨y10, y11, y12, y13, y14, y15, y16, y17⟩ := hc8 HY1.out.2.2.2.2.2.2; clear D1 G1; have lq3 : IntKind.i64.wrap (9 + IntKind.i64.wrap (k1 / 19)) = 9 + k1 / 19 := (by rw [IntKind.wrap_i64, IntKind.wrap_i64]; omega); have lq2 : k1.tdiv 19 = k1 / 19 := Int.tdiv_eq_ediv_of_nonneg k10; have K1 : Hid _ := And.intro k10 (And.intro k11 lq3); clear k10 k11 lq3) | (go_at_call 27; have hyy := HY1; clear hyy; rw [K1.out.2.2]; refine (nextD (w.heap.size + 1) v xs ((0 + 4000 + 2000 + 3) + 3) (9 + k1 / 19) wy1 HY1.out.1 (by decide) (by have := K1.out.1; omega) (by have := K1.out.2.1; omega)).mono ?_; rintro e wy2 ⟨k2, rfl, k20, k21, D2, G2⟩; have HY2 : Hid _ := And.intro D2 (And.intro (blk_drawn HY1.out.2.1 G2 (by omega)) (And.intro (HY1.out.2.2.1.grown G2 HY1.out.2.2.1.size (fun q hq => by have := Option.some.inj hq; omega)) (And.intro (HY1.out.1.row HY1.out.2.2.2.1 G2) (And.intro (HY1.out.1.row HY1.out.2.2.2.2.1 G2) (And.intro (HY1.out.1.row HY1.out.2.2.2.2.2.1 G2) (blk_drawn HY1.out.2.2.2.2.2.2 G2 (by omega))))))); obtain ⟨y20, y21, y22, y23, y24, y25, y26, y27⟩ := hc8 HY2.out.2.2.2.2.2.2; clear D2 G2; have K2 : Hid _ := And.intro k20 (show k2 ≤ 9 by have := K1.out.2.1; omega); clear k20 k21))
    all_goals
      go_wp2
      try simp only [Exit.inBlock, Exit.then]
      refine bodyPost_ret (v := .tuple #[.agg #[.int .i64 a0, .int .i64 a1, .slice c2 d.length p2, .slice c3 s.length p3, .slice (some ⟨w4.heap.size, 0, none⟩) 0 0, .int .i64 a5, .int .i64 a6, .int .i64 a7], .slice ca ys.length pa]) ?_ rfl ?_
      · refine results_row_tmpD (t := 24) rfl _ _ w.heap.size _ (fr := (0, 0)) _ _ rfl rfl ?_ Tryz.underlying24 rfl infoH8
        rw [bk_set (bk_set (bk_set (bk_set (bk_set (bk_set (bk_set (bk_set HY3.out.2.1 0 _) 1 _) 2 _) 3 _) 4 _) 5 _) 6 _) 7 _]
        rfl
      · refine ⟨_, _, ⟨a0, a1, d, s, [], a5, a6, a7⟩, ys, rfl, ⟨_, _, _, rfl, ?_, ?_, ?_⟩, ⟨HB.out.1, HB.out.2.1, (fun x hx => by cases hx)⟩, ⟨HB.out.2.2.2.1, HB.out.2.2.2.2.1, (Nat.zero_le _)⟩, ?_, HO.out.2.1, HO.out.2.2, ?_⟩
        · exact rowP_st8 HY3.out.2.2.2.1 HY3.out.2.1
        · exact rowP_st8 HY3.out.2.2.2.2.1 HY3.out.2.1
        · exact rowP_st8 HY3.out.2.2.2.2.2.1 HY3.out.2.1
        · exact rowP_st8 HO.out.1 HY3.out.2.1
        · exact (((((((HY3.out.2.2.1.setCell (Nat.le_refl _) _).setCell (Nat.le_refl _) _).setCell (Nat.le_refl _) _).setCell (Nat.le_refl _) _).setCell (Nat.le_refl _) _).setCell (Nat.le_refl _) _).setCell (Nat.le_refl _) _).setCell (Nat.le_refl _) _

set_option maxRecDepth 20000 in
set_option maxHeartbeats 4000000 in
theorem drawTokenC (v : Value) (xs : List Int) (w : World) (hrow : Row w .u8 v xs) (hB : Bytes xs) (hl : xs.length ≤ 1048576) :
    Calls Tryz.prog 16 #[v] w fun e w' => ∃ vk vc ks cs, e = .returned (.tuple #[vk, vc]) ∧ Row w' .u8 vk ks ∧ Row w' .u8 vc cs ∧ Bytes ks ∧ Bytes cs ∧ ks.length ≤ 20 ∧ cs.length ≤ 10 ∧ Below w.heap.size w w' := by
  have S0 := sourceC v xs w hrow hB hl
  have D0 := dr_new hrow hB hl
  have H0 : Hid _ := And.intro S0 (And.intro D0 ((Below.refl w.heap.size w).alloc (Nat.le_refl _) (.cells #[v, .int .i64 0, .int .i64 ((xs.length : Int) % 1000)] 83)))
  clear S0 D0 hrow hB hl
  go_enter Tryz.func16, Tryz.ntmps16
  go_wp2_with fail
  go_at_call 22
  refine H0.out.1.mono ?_
  rintro e w1 ⟨rfl, hw1⟩
  have H1 : Hid _ := And.intro (show Dr w1 w.heap.size v xs 0 by rw [hw1]; exact H0.out.2.1) (show Below w.heap.size w w1 by rw [hw1]; exact H0.out.2.2)
  clear hw1
  go_wp2_with fail
  go_at_call 25
  refine (chanceD w.heap.size v xs 0 6 w1 H1.out.1 (by decide) (by decide) (by decide)).mono ?_
  rintro e w2 ⟨bc, rfl, D2, G2⟩
  have H2 : Hid _ := And.intro D2 (H1.out.2.grown G2 H1.out.2.size (fun q hq => by have := Option.some.inj hq; omega))
  clear D2 G2
  cases bc
  · go_wp2_with fail
    go_at_call 26
    refine (bytesD w.heap.size v xs (0 + 3) 16 w2 H2.out.1 (by decide) (by decide) (by decide)).mono ?_
    rintro e w4 ⟨ca, pa, ks, rfl, R4, l4, B4, D4, G4⟩
    have H4 : Hid _ := And.intro D4 (And.intro (H2.out.2.grown G4 H2.out.2.size (fun q hq => by have := Option.some.inj hq; omega)) (And.intro R4 (And.intro B4 (show ks.length ≤ 20 by omega))))
    clear D4 G4 R4 B4 l4
    go_wp2_with fail
    go_at_call 27
    refine (nextD w.heap.size v xs (0 + 3 + 1000) 10 w4 H4.out.1 (by decide) (by decide) (by decide)).mono ?_
    rintro e w5 ⟨k5, rfl, k0, k1, D5, G5⟩
    have H5 : Hid _ := And.intro D5 (And.intro (H4.out.2.1.grown G5 H4.out.2.1.size (fun q hq => by have := Option.some.inj hq; omega)) (And.intro (H4.out.1.row H4.out.2.2.1 G5) (And.intro k0 k1)))
    clear D5 G5 k0 k1
    go_wp2_with fail
    go_at_call 26
    refine (bytesD w.heap.size v xs (0 + 3 + 1000 + 3) k5 w5 H5.out.1 (by decide) H5.out.2.2.2.1 (by have := H5.out.2.2.2.2; omega)).mono ?_
    rintro e w6 ⟨cc, pc, cs, rfl, R6, l6, B6, D6, G6⟩
    have H6 : Hid _ := And.intro (H5.out.1.row H5.out.2.2.1 G6) (And.intro R6 (And.intro B6 (And.intro (show cs.length ≤ 10 by have := H5.out.2.2.2.2; omega) (H5.out.2.1.grown G6 H5.out.2.1.size (fun q hq => by have := Option.some.inj hq; omega)))))
    clear D6 G6 R6 B6 l6
    go_wp2
    go_ret2
    exact ⟨_, _, ks, cs, rfl, H6.out.1, H6.out.2.1, H4.out.2.2.2.1, H6.out.2.2.1, H4.out.2.2.2.2, H6.out.2.2.2.1, H6.out.2.2.2.2⟩
  · go_wp2_with fail
    go_at_call 27
    refine (nextD w.heap.size v xs (0 + 3) 20 w2 H2.out.1 (by decide) (by decide) (by decide)).mono ?_
    rintro e w3 ⟨k3, rfl, k30, k31, D3, G3⟩
    have K3 : Hid _ := And.intro k30 k31
    have H3 : Hid _ := And.intro D3 (H2.out.2.grown G3 H2.out.2.size (fun q hq => by have := Option.some.inj hq; omega))
    clear D3 G3 k30 k31
    go_wp2_with fail
    go_at_call 26
    refine (bytesD w.heap.size v xs (0 + 3 + 3) k3 w3 H3.out.1 (by decide) (K3.out.1) (by have := K3.out.2; omega)).mono ?_
    rintro e w4 ⟨ca, pa, ks, rfl, R4, l4, B4, D4, G4⟩
    have H4 : Hid _ := And.intro D4 (And.intro (H3.out.2.grown G4 H3.out.2.size (fun q hq => by have := Option.some.inj hq; omega)) (And.intro R4 (And.intro B4 (show ks.length ≤ 20 by have := K3.out.2; omega))))
    clear D4 G4 R4 B4 l4
    go_wp2_with fail
    go_at_call 27
    refine (nextD w.heap.size v xs (0 + 3 + 3 + 1000) 10 w4 H4.out.1 (by decide) (by decide) (by decide)).mono ?_
    rintro e w5 ⟨k5, rfl, k0, k1, D5, G5⟩
    have H5 : Hid _ := And.intro D5 (And.intro (H4.out.2.1.grown G5 H4.out.2.1.size (fun q hq => by have := Option.some.inj hq; omega)) (And.intro (H4.out.1.row H4.out.2.2.1 G5) (And.intro k0 k1)))
    clear D5 G5 k0 k1
    go_wp2_with fail
    go_at_call 26
    refine (bytesD w.heap.size v xs (0 + 3 + 3 + 1000 + 3) k5 w5 H5.out.1 (by decide) H5.out.2.2.2.1 (by have := H5.out.2.2.2.2; omega)).mono ?_
    rintro e w6 ⟨cc, pc, cs, rfl, R6, l6, B6, D6, G6⟩
    have H6 : Hid _ := And.intro (H5.out.1.row H5.out.2.2.1 G6) (And.intro R6 (And.intro B6 (And.intro (show cs.length ≤ 10 by have := H5.out.2.2.2.2; omega) (H5.out.2.1.grown G6 H5.out.2.1.size (fun q hq => by have := Option.some.inj hq; omega)))))
    clear D6 G6 R6 B6 l6
    go_wp2
    go_ret2
    exact ⟨_, _, ks, cs, rfl, H6.out.1, H6.out.2.1, H4.out.2.2.2.1, H6.out.2.2.1, H4.out.2.2.2.2, H6.out.2.2.2.1, H6.out.2.2.2.2⟩
end Go.Proofs.YtoalillggafnpaaGreatDoor

namespace Go.Proofs.YtoalillggafnpaaGreatDoor
open Go.RowKit
set_option linter.unusedVariables false

theorem pushD {w wr w1 w2 : World} {g : Nat} {c v v' : Value} {xs ys : List Int} {x p : Int} {o : Obj} (hgl : g < w.heap.size)
    (hown : wr.ownsRow w.heap.size 3 1 v ys.length (ys.map (Value.int .i64))) (hg : w.grownBy wr (some g)) (hg1 : wr.grownBy w1 (some g)) (hd1 : Dr w1 g c xs p)
    (hown2 : w2.ownsRow w.heap.size 3 1 v' (ys.length + 1) (ys.map (Value.int .i64) ++ [Value.int .i64 x])) (hgrow : (w1.alloc o).grownBy w2 v.ownBlock) :
    w2.ownsRow w.heap.size 3 1 v' (ys ++ [x]).length ((ys ++ [x]).map (Value.int .i64)) ∧ Dr w2 g c xs p ∧ w.grownBy w2 (some g) := by
  have hr : ∀ j, v.ownBlock = some j → w.heap.size ≤ j := fun j hj => (hown.lt j hj).1
  refine ⟨by rw [List.length_append, List.map_append]; exact hown2, ?_, ?_⟩
  · obtain ⟨l, s, hd, hp⟩ := hd1
    refine ⟨l, s, (drw_alloc hd o).kept hgrow (fun e => by have := hr g e.symm; omega) (fun b off n cap h0 e e' => ?_), hp⟩
    have h1 := l b off n cap h0 e
    have h2 := hr b e'.symm
    omega
  · exact grown_own (grown_trans (grown_trans hg hg1) (World.grownBy_alloc w1 o (some g))) hgrow hr
set_option maxRecDepth 20000 in
set_option maxHeartbeats 2000000 in
theorem drawVersD (g : Nat) (c : Value) (xs : List Int) (p : Int) (w : World) (h : Dr w g c xs p) (hp : p ≤ 800000) :
    Calls Tryz.prog 40 #[.pointer (some ⟨g, 0, none⟩)] w fun e w' => ∃ (r : Value) (vs : List Int), e = .returned r ∧ w'.ownsRow w.heap.size 3 1 r vs.length (vs.map (Value.int .i64)) ∧ 1 ≤ vs.length ∧ vs.length ≤ 8 ∧ Dr w' g c xs (p + 100) ∧ w.grownBy w' (some g) := by
  have hgl := h.lt
  have N := nextD g c xs p 8 _ (h.alloc (.cells #[] 3)) (by omega) (by decide) (by decide)
  obtain ⟨i0, hi, hz0, hz1, hz2⟩ := info_parts infoInts
  have HP : Hid _ := And.intro hp True.intro
  clear h hp
  go_enter Tryz.func40, Tryz.ntmps40
  go_wp2_with fail
  go_at_call 27
  refine N.mono ?_
  rintro e w1 ⟨k1, rfl, k10, k11, hd1, hg1⟩
  clear N
  obtain ⟨n, en⟩ : ∃ n : Nat, (n : Int) = 1 + k1 := ⟨(1 + k1).toNat, by omega⟩
  have l1 : IntKind.i64.wrap (1 + k1) = (n : Int) := by rw [IntKind.wrap_i64]; omega
  have n1 : 1 ≤ n := by omega
  have n8 : n ≤ 8 := by omega
  have ho1 : w1.ownsRow w.heap.size 3 1 (.slice (some ⟨w.heap.size, 0, none⟩) 0 0) ([] : List Int).length (([] : List Int).map (Value.int .i64)) :=
    own_step (World.ownsRow_lit w #[] 0 (Nat.le_refl _) (by decide) rfl) hg1 hgl
  have hgw : w.grownBy w1 (some g) := grown_trans (World.grownBy_alloc w _ (some g)) hg1
  have HO : Hid _ := And.intro ho1 (And.intro hd1 hgw)
  clear ho1 hd1 hgw hg1 k10 k11 en
  go_wp2
  go_loopw [3, 4] (fun v i wr => ∃ (k : Nat) (ys : List Int), k ≤ n ∧ i = .int .i64 ((n : Int) - (k : Int)) ∧ ys.length = k ∧ wr.ownsRow w.heap.size 3 1 v ys.length (ys.map (Value.int .i64)) ∧ Dr wr g c xs (p + 3 + 3 * (k : Int)) ∧ w.grownBy wr (some g)) (fun _ i _ => (intOf i).toNat)
  case atStart => exact ⟨0, [], Nat.zero_le _, by simp, rfl, HO.out.1, HO.out.2.1.mono (by omega), HO.out.2.2⟩
  case round =>
    obtain ⟨k, ys, hk, rfl, hyl, hown, hd, hg⟩ := hrel
    by_cases hlt : k < n
    · have C := nextD g c xs (p + 3 + 3 * (k : Int)) 9 wr hd (by have := HP.out.1; omega) (by decide) (by decide)
      clear HO
      go_wp2_with (first
        | (go_at_call 27; refine C.mono ?_; rintro e w1 ⟨x, rfl, x0, x1, hd1, hg1⟩; have lx : IntKind.i64.wrap (1 + x) = 1 + x := (by rw [IntKind.wrap_i64]; omega))
        | (at_builtin; refine wpList_append_own _ rfl _ _ 33 rfl w.heap.size 3 i0 (.int .i64 0) 1 8 Tryz.underlying33 hi hz0 hz1 hz2 rfl (by decide) _ _ _ rfl ((own_step hown hg1 hgl).alloc _) ⟨w1.heap.size, 0, none⟩ 1 1 [.int .i64 (1 + x)] rfl rfl ?c1 ?c2 ?c3 ?c4 ?c5 ?_))
      case c1 =>
        intro j u hj
        match j, hj with
        | 0, hj => simp at hj; subst hj; simp [Addr.add]
      case c2 => intro u hu; simp at hu; subst hu; rfl
      case c3 => unfold maxLen; omega
      case c4 => omega
      case c5 => have := hg.size; have := hg1.size; simp; omega
      intro v' w2 hown2 hgrow _
      rw [← hyl] at hown2
      have R := pushD hgl hown hg hg1 hd1 hown2 hgrow
      have HR : Hid _ := R
      clear R hown2 hgrow hown hg hd C hd1 hg1 lx x0 x1
      go_wp2
      go_roundw
      case rel => exact ⟨k + 1, ys ++ [1 + x], by omega, by go_num, by simp [hyl], HR.out.1, HR.out.2.1.mono (by omega), HR.out.2.2⟩
      case measure => simp [intOf]; omega
    · obtain rfl : k = n := by omega
      have HR : Hid _ := And.intro hown (And.intro hd hg)
      clear hown hd hg HO
      go_wp2
      go_ret
      exact ⟨_, ys, rfl, HR.out.1, by omega, by omega, HR.out.2.1.mono (by omega), HR.out.2.2⟩
/-- Two lists of bytes and the versions, drawn behind them: what stands. -/
structure VAt (w W2 W : World) (g : Nat) (c : Value) (xs : List Int) (p : Int) (vd vs' : Value) (d s : List Int) : Prop where
  dr : Dr W g c xs p
  d2 : ∃ q, Dr W2 g c xs q
  gr : W2.grownBy W (some g)
  b : Below w.heap.size w W2
  rd : Row W2 .u8 vd d
  rs : Row W2 .u8 vs' s
  bd : Bytes d
  bs : Bytes s
  ld : d.length ≤ 10
  ls : s.length ≤ 10
theorem VAt.below {w W2 W : World} {c : Value} {xs : List Int} {p : Int} {vd vs' : Value} {d s : List Int} (h : VAt w W2 W w.heap.size c xs p vd vs' d s) : Below w.heap.size w W :=
  h.b.grown h.gr h.b.size (fun q hq => by have := Option.some.inj hq; omega)
theorem VAt.row1 {w W2 W : World} {g : Nat} {c : Value} {xs : List Int} {p : Int} {vd vs' : Value} {d s : List Int} (h : VAt w W2 W g c xs p vd vs' d s) : Row W .u8 vd d := by
  obtain ⟨q, hq⟩ := h.d2
  exact hq.row h.rd h.gr
theorem VAt.row2 {w W2 W : World} {g : Nat} {c : Value} {xs : List Int} {p : Int} {vd vs' : Value} {d s : List Int} (h : VAt w W2 W g c xs p vd vs' d s) : Row W .u8 vs' s := by
  obtain ⟨q, hq⟩ := h.d2
  exact hq.row h.rs h.gr
theorem VAt.step {w W2 W W' : World} {g : Nat} {c : Value} {xs : List Int} {p p' : Int} {vd vs' : Value} {d s : List Int} (h : VAt w W2 W g c xs p vd vs' d s) (hd : Dr W' g c xs p') (gr : W.grownBy W' (some g)) : VAt w W2 W' g c xs p' vd vs' d s :=
  ⟨hd, h.d2, grown_trans h.gr gr, h.b, h.rd, h.rs, h.bd, h.bs, h.ld, h.ls⟩

set_option maxRecDepth 20000 in
set_option maxHeartbeats 4000000 in
theorem drawVersC (v : Value) (xs : List Int) (w : World) (hrow : Row w .u8 v xs) (hB : Bytes xs) (hl : xs.length ≤ 1048576) :
    Calls Tryz.prog 11 #[v] w fun e w' => ∃ (vd vs' vv : Value) (d s vs : List Int), e = .returned (.tuple #[vd, vs', vv]) ∧ Row w' .u8 vd d ∧ Row w' .u8 vs' s ∧ Row w' .i64 vv vs ∧ Bytes d ∧ Bytes s ∧ d.length ≤ 10 ∧ s.length ≤ 10 ∧ vs.length ≤ 9 ∧ Below w.heap.size w w' := by
  have S0 := sourceC v xs w hrow hB hl
  have D0 := dr_new hrow hB hl
  have H0 : Hid _ := And.intro S0 (And.intro D0 ((Below.refl w.heap.size w).alloc (Nat.le_refl _) (.cells #[v, .int .i64 0, .int .i64 ((xs.length : Int) % 1000)] 83)))
  clear S0 D0 hrow hB hl
  go_enter Tryz.func11, Tryz.ntmps11
  go_wp2_with fail
  go_at_call 22
  refine H0.out.1.mono ?_
  rintro e w1 ⟨rfl, hw1⟩
  have H1 : Hid _ := And.intro (show Dr w1 w.heap.size v xs 0 by rw [hw1]; exact H0.out.2.1) (show Below w.heap.size w w1 by rw [hw1]; exact H0.out.2.2)
  clear hw1
  go_wp2_with fail
  go_at_call 39
  refine (cidD w.heap.size v xs 0 w1 H1.out.1 (by decide)).mono ?_
  rintro e w2 ⟨a2, p2, d, rfl, R2, l2, B2, D2, G2⟩
  have H2 : Hid _ := And.intro D2 (And.intro (H1.out.2.grown G2 H1.out.2.size (fun q hq => by have := Option.some.inj hq; omega)) (And.intro R2 (And.intro B2 l2)))
  clear R2 l2 B2 D2 G2
  go_wp2_with fail
  go_at_call 39
  refine (cidD w.heap.size v xs (0 + 1003) w2 H2.out.1 (by decide)).mono ?_
  rintro e w3 ⟨a3, p3, s, rfl, R3, l3, B3, D3, G3⟩
  have V3 : VAt w w3 w3 w.heap.size v xs (0 + 1003 + 1003) (.slice a2 d.length p2) (.slice a3 s.length p3) d s := ⟨D3, ⟨_, D3⟩, grown_refl _ _, H2.out.2.1.grown G3 H2.out.2.1.size (fun q hq => by have := Option.some.inj hq; omega), H2.out.1.row H2.out.2.2.1 G3, R3, H2.out.2.2.2.1, B3, by have := H2.out.2.2.2.2; omega, by omega⟩
  have H3 : Hid _ := And.intro V3 True.intro
  clear R3 l3 B3 D3 G3 V3
  go_wp2_with fail
  go_at_call 40
  refine (drawVersD w.heap.size v xs (0 + 1003 + 1003) w3 H3.out.1.dr (by decide)).mono ?_
  rintro e w4 ⟨r4, vl, rfl, O4, n1, n8, D4, G4⟩
  have g3l := H3.out.1.dr.lt
  have H4 : Hid _ := And.intro (H3.out.1.step D4 G4) (And.intro O4 (And.intro n1 n8))
  obtain ⟨ra, rp, er⟩ : ∃ (b : Nat) (cap : Nat), r4 = .slice (some ⟨b, 0, none⟩) vl.length cap := by
    rcases O4.2 with ⟨e1, e2⟩ | ⟨b, cap, cur, e1, _⟩
    · omega
    · exact ⟨b, cap, e1⟩
  subst er
  have ra3 : w3.heap.size ≤ ra := (O4.lt ra rfl).1
  have ra4 : ra < w4.heap.size := (O4.lt ra rfl).2
  have vl1 : 0 < vl.length := n1
  clear O4 D4 G4 n1 n8
  go_wp2_with fail
  go_at_call 27
  refine (nextD w.heap.size v xs (0 + 1003 + 1003 + 100) 10 w4 H4.out.1.dr (by decide) (by decide) (by decide)).mono ?_
  rintro e w5 ⟨k, rfl, k0, k1, D5, G5⟩
  have H5 : Hid _ := And.intro (H4.out.1.step D5 G5) (And.intro (own_step H4.out.2.1 G5 g3l) (And.intro H4.out.2.2.1 H4.out.2.2.2))
  clear D5 G5
  by_cases q0 : k = 0
  · subst q0
    clear k0 k1
    go_wp2_with fail
    go_at_call 27
    have A5 : Below w5.heap.size w5 (w5.alloc (.cells #[.int .i64 0, .int .i64 (-1), .int .i64 4294967295, .int .i64 4294967296] 3)) := (Below.refl _ _).alloc (Nat.le_refl _) _
    have H5a : Hid _ := And.intro (H5.out.1.step (H5.out.1.dr.kept A5) (grownP_below A5 _)) (And.intro (own_step H5.out.2.1 (grownP_below A5 (some w.heap.size)) g3l) (heap_alloc_new w5 (.cells #[.int .i64 0, .int .i64 (-1), .int .i64 4294967295, .int .i64 4294967296] 3)))
    clear A5
    refine (nextD w.heap.size v xs (0 + 1003 + 1003 + 100 + 3) 4 _ H5a.out.1.dr (by decide) (by decide) (by decide)).mono ?_
    rintro e w6 ⟨k2, rfl, k0, k1, D6, G6⟩
    obtain ⟨i, rfl⟩ := Int.eq_ofNat_of_zero_le k0
    have hi4 : i < 4 := by omega
    have T6 := blk_drawn H5a.out.2.2 G6 (by have := H5.out.1.dr.lt; omega)
    obtain ⟨tv, ct⟩ : ∃ tv : Int, w6.cell? ⟨w5.heap.size, i, none⟩ = some (.int .i64 tv) := by
      rw [bk_cell T6 i]
      match i, hi4 with
      | 0, _ => exact ⟨_, rfl⟩
      | 1, _ => exact ⟨_, rfl⟩
      | 2, _ => exact ⟨_, rfl⟩
      | 3, _ => exact ⟨_, rfl⟩
    have O6 := own_step H5a.out.2.1 G6 g3l
    have V6 := H5a.out.1.step D6 G6
    obtain ⟨b', off', cap', e', hb', hc'⟩ := (row_of_owns O6).at vl1
    have c0 : w6.cell? ⟨ra, 0, none⟩ = some (.int .i64 (vl.getD 0 0)) := by
      have := hc' 0 vl1
      cases e'
      exact this
    have f0 : w6.frozen? ⟨ra, 0, none⟩ = false := by
      rcases O6.2 with ⟨e1, _⟩ | ⟨b, cap, cur, e1, _, hh, _⟩
      · cases e1
      · cases e1
        exact bk_free hh 0
    have F := fill_step (w := w) (B := w.heap.size) (k := 0) (f := fun _ => tv) (x := tv) rfl rfl vl1 (fun j hj => by omega) O6 V6.below (by have := H3.out.1.b.size; omega)
    obtain ⟨ys, yl, _, yo, yb⟩ := F
    have V7 : VAt w w3 (w6.setCell ⟨ra, 0, none⟩ (.int .i64 tv)) w.heap.size v xs (0 + 1003 + 1003 + 100 + 3 + 3) (.slice a2 d.length p2) (.slice a3 s.length p3) d s :=
      ⟨V6.dr.set (by omega), V6.d2, grownP_set V6.gr ra3, V6.b, V6.rd, V6.rs, V6.bd, V6.bs, V6.ld, V6.ls⟩
    have H7 : Hid _ := And.intro V7 (And.intro (row_of_owns yo) (And.intro yl yb))
    have vl64 : (vl.length : Int) ≤ 8 := by have := H5.out.2.2.2; omega
    clear D6 G6 T6 O6 V6 hc' hb' e' V7 yo yb yl k0 k1
    go_wp2
    go_ret3
    exact ⟨_, _, _, d, s, ys, rfl, H7.out.1.row1, H7.out.1.row2, H7.out.2.1, H7.out.1.bd, H7.out.1.bs, H7.out.1.ld, H7.out.1.ls, by have := H7.out.2.2.1; have := H5.out.2.2.2; omega, H7.out.2.2.2⟩
  by_cases q1 : k = 1
  · subst q1
    clear k0 k1 q0
    go_wp2_with fail
    go_at_call 27
    refine (nextD w.heap.size v xs (0 + 1003 + 1003 + 100 + 3) 2 w5 H5.out.1.dr (by decide) (by decide) (by decide)).mono ?_
    rintro e w6 ⟨k2, rfl, k0, k1, D6, G6⟩
    have H6 : Hid _ := And.intro (H5.out.1.step D6 G6) True.intro
    obtain ⟨m, em⟩ : ∃ m : Nat, k2 * 9 = (m : Int) := ⟨(k2 * 9).toNat, by omega⟩
    have hm9 : m ≤ 9 := by omega
    have lm : IntKind.i64.wrap (k2 * 9) = (m : Int) := by rw [IntKind.wrap_i64]; omega
    obtain ⟨i0, hi, hz0, hz1, hz2⟩ := info_parts infoInts
    clear D6 G6 k0 k1 em
    go_wp2_with (at_make; refine wpList_make_full _ rfl _ _ 33 rfl w.heap.size 3 i0 (.int .i64 0) 1 Tryz.underlying33 hi hz0 hz1 .i64 .i64 (m : Int) (m : Int) m rfl rfl rfl rfl (by rw [hz2]; omega) (by unfold maxLen; omega) (by have := H6.out.1.below.size; omega) ?_; intro w8 hown hg)
    have b8 : Below w6.heap.size w6 w8 := (Below.refl _ _).grown hg (Nat.le_refl _) (by intro k hk; cases hk)
    have V8 := H6.out.1.step (H6.out.1.dr.kept b8) (grownP_below b8 _)
    have H8 : Hid _ := And.intro V8 (row_of_owns (made_zero hown))
    clear V8 b8 hown hg
    go_wp2
    go_ret3
    exact ⟨_, _, _, d, s, List.replicate m 0, rfl, H8.out.1.row1, H8.out.1.row2, H8.out.2, H8.out.1.bd, H8.out.1.bs, H8.out.1.ld, H8.out.1.ls, by rw [List.length_replicate]; exact hm9, H8.out.1.below⟩
  by_cases q2 : k = 2
  · subst q2
    clear k0 k1 q0 q1
    go_wp2_with fail
    go_at_call 27
    refine (nextD w.heap.size v xs (0 + 1003 + 1003 + 100 + 3) 3 w5 H5.out.1.dr (by decide) (by decide) (by decide)).mono ?_
    rintro e w6 ⟨k2, rfl, k0, k1, D6, G6⟩
    have H6 : Hid _ := And.intro (H5.out.1.step D6 G6) (And.intro (own_step H5.out.2.1 G6 g3l) (And.intro k0 k1))
    have lm : IntKind.i64.wrap (8 + k2) = 8 + k2 := by rw [IntKind.wrap_i64]; omega
    clear D6 G6 k0 k1
    go_wp2_with fail
    go_at_call 26
    refine (bytesD w.heap.size v xs (0 + 1003 + 1003 + 100 + 3 + 3) (8 + k2) w6 H6.out.1.dr (by decide) (by have := H6.out.2.2.1; omega) (by have := H6.out.2.2.2; omega)).mono ?_
    rintro e w7 ⟨ca, pa, ys, rfl, R7, l7, B7, D7, G7⟩
    have H7 : Hid _ := And.intro (H6.out.1.step D7 G7) (And.intro (row_of_owns (own_step H6.out.2.1 G7 g3l)) (And.intro R7 (And.intro B7 (show ys.length ≤ 10 by have := H6.out.2.2.2; omega))))
    clear D7 G7 R7 B7 l7
    go_wp2
    go_ret3
    exact ⟨_, _, _, ys, s, vl, rfl, H7.out.2.2.1, H7.out.1.row2, H7.out.2.1, H7.out.2.2.2.1, H7.out.1.bs, H7.out.2.2.2.2, H7.out.1.ls, by have := H5.out.2.2.2; omega, H7.out.1.below⟩
  by_cases q3 : k = 3
  · subst q3
    clear k0 k1 q0 q1 q2
    go_wp2_with fail
    go_at_call 27
    refine (nextD w.heap.size v xs (0 + 1003 + 1003 + 100 + 3) 3 w5 H5.out.1.dr (by decide) (by decide) (by decide)).mono ?_
    rintro e w6 ⟨k2, rfl, k0, k1, D6, G6⟩
    have H6 : Hid _ := And.intro (H5.out.1.step D6 G6) (And.intro (own_step H5.out.2.1 G6 g3l) (And.intro k0 k1))
    have lm : IntKind.i64.wrap (8 + k2) = 8 + k2 := by rw [IntKind.wrap_i64]; omega
    clear D6 G6 k0 k1
    go_wp2_with fail
    go_at_call 26
    refine (bytesD w.heap.size v xs (0 + 1003 + 1003 + 100 + 3 + 3) (8 + k2) w6 H6.out.1.dr (by decide) (by have := H6.out.2.2.1; omega) (by have := H6.out.2.2.2; omega)).mono ?_
    rintro e w7 ⟨ca, pa, ys, rfl, R7, l7, B7, D7, G7⟩
    have H7 : Hid _ := And.intro (H6.out.1.step D7 G7) (And.intro (row_of_owns (own_step H6.out.2.1 G7 g3l)) (And.intro R7 (And.intro B7 (show ys.length ≤ 10 by have := H6.out.2.2.2; omega))))
    clear D7 G7 R7 B7 l7
    go_wp2
    go_ret3
    exact ⟨_, _, _, d, ys, vl, rfl, H7.out.1.row1, H7.out.2.2.1, H7.out.2.1, H7.out.1.bd, H7.out.2.2.2.1, H7.out.1.ld, H7.out.2.2.2.2, by have := H5.out.2.2.2; omega, H7.out.1.below⟩
  have t0 : (k == 0) = false := by rw [beq_eq_false_iff_ne]; omega
  have t1 : (k == 1) = false := by rw [beq_eq_false_iff_ne]; omega
  have t2 : (k == 2) = false := by rw [beq_eq_false_iff_ne]; omega
  have t3 : (k == 3) = false := by rw [beq_eq_false_iff_ne]; omega
  clear k0 k1 q0 q1 q2 q3
  go_wp2
  go_ret3
  exact ⟨_, _, _, d, s, vl, rfl, H5.out.1.row1, H5.out.1.row2, row_of_owns H5.out.2.1, H5.out.1.bd, H5.out.1.bs, H5.out.1.ld, H5.out.1.ls, by have := H5.out.2.2.2; omega, H5.out.1.below⟩
end Go.Proofs.YtoalillggafnpaaGreatDoor
