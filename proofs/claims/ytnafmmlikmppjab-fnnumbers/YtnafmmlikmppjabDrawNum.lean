import Derived.Test.YtnafmmlikmppjabSource
import Derived.Deep.RegionWith
namespace Go.Proofs.Ytnafmmlikmppjab
open Go.RowKit
set_option linter.unusedVariables false

def i64b (a : Int) : Prop := -9223372036854775808 ≤ a ∧ a ≤ 9223372036854775807
theorem tab9_bd (i : Nat) : i64b (tab9.getD i 0) := by
  unfold i64b
  match i with
  | 0 | 1 | 2 | 3 | 4 | 5 | 6 | 7 | 8 => simp [tab9]
  | n + 9 => simp [tab9, List.getD]
theorem tab4_bd (i : Nat) : i64b (tab4.getD i 0) := by
  unfold i64b
  match i with
  | 0 | 1 | 2 | 3 => simp [tab4]
  | n + 4 => simp [tab4, List.getD]
theorem numV_bd (xs : List Int) (s : St) : i64b (numV xs s) := by
  have h2 := nextV_bd xs 16777216 (nextS xs 12 s) (by decide)
  have h3 := nextV_bd xs 65536 (nextS xs 16777216 (nextS xs 12 s)) (by decide)
  have h4 := nextV_bd xs 20000 (nextS xs 12 s) (by decide)
  have h5 := nextV_bd xs 100 (nextS xs 12 s) (by decide)
  unfold numV
  split
  · exact tab9_bd _
  · split
    · unfold i64b; omega
    · split
      · exact tab4_bd _
      · split
        · unfold i64b; omega
        · unfold i64b; omega

theorem drw_heap {w w' : World} {g : Nat} {v : Value} {xs : List Int} {s : St} (h : Drw w g v xs s) (e : w'.heap = w.heap) : Drw w' g v xs s := by
  refine ⟨by rw [e]; exact h.blk, ?_, h.apart, h.bytes, h.len, h.p0, h.s0, h.s1⟩
  rcases h.row with h | ⟨b, off, cap, e1, hlt, hcap, hc⟩
  · exact Or.inl h
  · refine Or.inr ⟨b, off, cap, e1, by rw [e]; exact hlt, hcap, fun j hj => ?_⟩
    rw [← hc j hj]
    simp [World.cell?, e]

set_option maxHeartbeats 1000000 in
theorem drawNum_again (v : Value) (g : Nat) (a b : Int) (c : Bool) (w w1 : World)
    (S : Calls Try.prog 10 #[v] w fun e w' => e = .returned (.pointer (some ⟨g, 0, none⟩)) ∧ w' = w1)
    (P1 P2 P3 : World → Prop)
    (N1 : Calls Try.prog 11 #[.pointer (some ⟨g, 0, none⟩)] w1 fun e w' => e = .returned (.int .i64 a) ∧ P1 w')
    (C : ∀ w : World, P1 w → Calls Try.prog 12 #[.pointer (some ⟨g, 0, none⟩), .int .i64 3] w fun e w' => e = .returned (.bool c) ∧ P2 w')
    (N2 : ∀ w : World, P2 w → Calls Try.prog 11 #[.pointer (some ⟨g, 0, none⟩)] w fun e w' => e = .returned (.int .i64 b) ∧ P3 w')
    (hc : c = true ∨ a < 0) :
    Calls Try.prog 4 #[v] w fun e w' => e = .returned (.tuple #[.int .i64 a, .int .i64 b]) ∧ P3 w' := by
  cases c
  · have ha : a < 0 := by simpa using hc
    clear hc
    go_enter Try.func4, Try.ntmps4
    go_wp2_with fail
    go_at_call 10
    refine S.mono ?_
    rintro e w' ⟨rfl, rfl⟩
    go_wp2_with fail
    go_at_call 11
    refine N1.mono ?_
    rintro e w2 ⟨rfl, h1⟩
    go_wp2_with fail
    go_at_call 12
    refine (C _ h1).mono ?_
    rintro e w3 ⟨rfl, h2⟩
    go_wp2_with fail
    go_at_call 11
    refine (N2 _ h2).mono ?_
    rintro e w4 ⟨rfl, h3⟩
    go_wp2
    go_ret2
    exact ⟨rfl, h3⟩
  · clear hc
    go_enter Try.func4, Try.ntmps4
    go_wp2_with fail
    go_at_call 10
    refine S.mono ?_
    rintro e w' ⟨rfl, rfl⟩
    go_wp2_with fail
    go_at_call 11
    refine N1.mono ?_
    rintro e w2 ⟨rfl, h1⟩
    go_wp2_with fail
    go_at_call 12
    refine (C _ h1).mono ?_
    rintro e w3 ⟨rfl, h2⟩
    go_wp2_with fail
    go_at_call 11
    refine (N2 _ h2).mono ?_
    rintro e w4 ⟨rfl, h3⟩
    go_wp2
    go_ret2
    exact ⟨rfl, h3⟩

theorem sub_bd (a y : Int) (ha : 0 ≤ a) (ha1 : a ≤ 9223372036854775807) (ly : 0 ≤ y) (uy : y ≤ 2147483648) : i64b (IntKind.i64.wrap (a - 1 - y)) := by
  have hw : IntKind.i64.wrap (a - 1 - y) = a - 1 - y := by
    simp [IntKind.wrap, IntKind.bits, IntKind.signed]
    omega
  rw [hw]
  exact ⟨by omega, by omega⟩
theorem grown_drew (w : World) (r : Option Nat) : w.grownBy w.drew r := ⟨rfl, rfl, rfl, Nat.le_refl _, fun _ _ _ => rfl⟩
theorem laid_at {w w' : World} {g i : Nat} {c : Array Value} {e : TypeId} {u : Value} (hg : (w.alloc (.cells c e)).grownBy w' (some g)) (hgB : g < w.heap.size) (h : Hid (c[i]? = some u)) :
    w'.cell? ⟨w.heap.size, i, none⟩ = some u := by
  have h1 : w'.heap[w.heap.size]? = some (.cells c e (0, 0)) := by
    rw [hg.block w.heap.size (by simp) (fun h => by have := Option.some.inj h; omega)]
    exact (MapKept.heap_alloc w _).1
  rw [blk_cell h1]
  exact h.out
set_option maxHeartbeats 4000000 in
theorem drawNum_less (v : Value) (g : Nat) (a y1 y2 y3 : Int) (i : Nat) (xs : List Int) (s2 s3 s4 s5 s6 : St) (w w1 : World) (P1 : World → Prop)
    (S : Calls Try.prog 10 #[v] w fun e w' => e = .returned (.pointer (some ⟨g, 0, none⟩)) ∧ w' = w1)
    (N1 : Calls Try.prog 11 #[.pointer (some ⟨g, 0, none⟩)] w1 fun e w' => e = .returned (.int .i64 a) ∧ P1 w')
    (C : ∀ w : World, P1 w → Calls Try.prog 12 #[.pointer (some ⟨g, 0, none⟩), .int .i64 3] w fun e w' => e = .returned (.bool false) ∧ Drw w' g v xs s2 ∧ w1.grownBy w' (some g))
    (K1 : ∀ w : World, Drw w g v xs s2 → Calls Try.prog 13 #[.pointer (some ⟨g, 0, none⟩), .int .i64 300] w fun e w' => e = .returned (.int .i64 y1) ∧ Drw w' g v xs s3 ∧ w.grownBy w' (some g))
    (K2 : ∀ w : World, Drw w g v xs s3 → Calls Try.prog 13 #[.pointer (some ⟨g, 0, none⟩), .int .i64 70000] w fun e w' => e = .returned (.int .i64 y2) ∧ Drw w' g v xs s4 ∧ w.grownBy w' (some g))
    (K3 : ∀ w : World, Drw w g v xs s4 → Calls Try.prog 13 #[.pointer (some ⟨g, 0, none⟩), .int .i64 16777216] w fun e w' => e = .returned (.int .i64 y3) ∧ Drw w' g v xs s5 ∧ w.grownBy w' (some g))
    (K4 : ∀ w : World, Drw w g v xs s5 → Calls Try.prog 13 #[.pointer (some ⟨g, 0, none⟩), .int .i64 9] w fun e w' => e = .returned (.int .i64 (i : Int)) ∧ Drw w' g v xs s6 ∧ w.grownBy w' (some g))
    (ha : 0 ≤ a) (ha1 : a ≤ 9223372036854775807) (l1 : 0 ≤ y1) (u1 : y1 < 300) (l2 : 0 ≤ y2) (u2 : y2 < 70000) (l3 : 0 ≤ y3) (u3 : y3 < 16777216) (hi : i < 9) (y : Int) (ly : 0 ≤ y) (uy : y ≤ 2147483648)
    (EY : Hid ((#[.int .i64 y1, .int .i64 y2, .int .i64 y3, .int .i64 127, .int .i64 128, .int .i64 32767, .int .i64 32768, .int .i64 2147483647, .int .i64 2147483648] : Array Value)[i]? = some (.int .i64 y))) :
    Calls Try.prog 4 #[v] w fun e w' => e = .returned (.tuple #[.int .i64 a, .int .i64 (IntKind.i64.wrap (a - 1 - y))]) ∧ w1.grownBy w' (some g) := by
  go_enter Try.func4, Try.ntmps4
  go_wp2_with fail
  go_at_call 10
  refine S.mono ?_
  rintro e w' ⟨rfl, rfl⟩
  go_wp2_with fail
  go_at_call 11
  refine N1.mono ?_
  rintro e w2 ⟨rfl, h1⟩
  go_wp2_with fail
  go_at_call 12
  refine (C _ h1).mono ?_
  rintro e w3 ⟨rfl, hd2, hg2⟩
  go_wp2_with fail
  have CC : ∀ w : World, (w.alloc (.cells #[.int .i64 y1, .int .i64 y2, .int .i64 y3, .int .i64 127, .int .i64 128, .int .i64 32767, .int .i64 32768, .int .i64 2147483647, .int .i64 2147483648] 3)).cell? ⟨w.heap.size, i, none⟩ = some (.int .i64 y) := by
    intro w
    rw [blk_cell (MapKept.heap_alloc w _).1]
    exact EY.out
  clear S N1 C
  go_region_with (first
    | (go_at_call_of 13 (Value.int IntKind.i64 300); refine (K1 w3.drew (drw_heap hd2 rfl)).mono ?_; rintro e w4 ⟨rfl, hd3, hg3⟩)
    | (go_at_call_of 13 (Value.int IntKind.i64 70000); refine (K2 _ hd3).mono ?_; rintro e w5 ⟨rfl, hd4, hg4⟩)
    | (go_at_call_of 13 (Value.int IntKind.i64 16777216); refine (K3 _ hd4).mono ?_; rintro e w6 ⟨rfl, hd5, hg5⟩)
    | (go_at_call_of 13 (Value.int IntKind.i64 9); refine (K4 (w6.alloc _) (drw_alloc hd5 _)).mono ?_; rintro e w7 ⟨rfl, hd6, hg6⟩; have cc := laid_at hg6 (drw_lt hd5) EY)
    | (go_at_call_of 13 (Value.int IntKind.i64 9); refine (K4 w6 hd5).mono ?_; rintro e w7 ⟨rfl, hd6, hg6⟩))
  · have hg : w'.grownBy w7 (some g) := grown_trans hg2 (grown_trans (grown_drew w3 _) (grown_trans hg3 (grown_trans hg4 (grown_trans hg5 (grown_trans (World.grownBy_alloc w6 _ (some g)) hg6)))))
    have HG : Hid _ := hg
    clear hg hg2 hg3 hg4 hg5 hg6 K1 K2 K3 K4 CC
    go_wp2
    go_ret2
    exact ⟨rfl, HG.out⟩
  · have hg : w'.grownBy w7 (some g) := grown_trans hg2 (grown_trans (grown_drew w3 _) (grown_trans hg3 (grown_trans hg4 (grown_trans hg5 hg6))))
    have HG : Hid _ := hg
    clear hg hg2 hg3 hg4 hg5 hg6 K1 K2 K3 K4 CC
    go_wp2
    go_ret2
    exact ⟨rfl, grown_trans HG.out (World.grownBy_alloc w7 _ (some g))⟩

def tabN (y1 y2 y3 : Int) : List Int := [y1, y2, y3, 127, 128, 32767, 32768, 2147483647, 2147483648]
theorem tabN_at (y1 y2 y3 : Int) (i : Nat) (hi : i < 9) : (#[.int .i64 y1, .int .i64 y2, .int .i64 y3, .int .i64 127, .int .i64 128, .int .i64 32767, .int .i64 32768, .int .i64 2147483647, .int .i64 2147483648] : Array Value)[i]? = some (.int .i64 ((tabN y1 y2 y3).getD i 0)) := by
  match i, hi with
  | 0, _ | 1, _ | 2, _ | 3, _ | 4, _ | 5, _ | 6, _ | 7, _ | 8, _ => rfl
theorem tabN_bd (y1 y2 y3 : Int) (i : Nat) (l1 : 0 ≤ y1) (u1 : y1 < 300) (l2 : 0 ≤ y2) (u2 : y2 < 70000) (l3 : 0 ≤ y3) (u3 : y3 < 16777216) (hi : i < 9) : 0 ≤ (tabN y1 y2 y3).getD i 0 ∧ (tabN y1 y2 y3).getD i 0 ≤ 2147483648 := by
  match i, hi with
  | 0, _ | 1, _ | 2, _ | 3, _ | 4, _ | 5, _ | 6, _ | 7, _ | 8, _ => simp [tabN]; try omega

theorem drawNum (v : Value) (xs : List Int) (w : World) (hrow : Row w .u8 v xs) (hB : Bytes xs) (hl : xs.length ≤ 1048576) :
    ∃ a b : Int, i64b a ∧ i64b b ∧ Calls Try.prog 4 #[v] w fun e w' => e = .returned (.tuple #[.int .i64 a, .int .i64 b]) ∧ Below w.heap.size w w' := by
  have S := sourceC v xs w hrow hB hl
  have D0 := drw_new hrow hB hl
  have p0 : (stZ xs).pos = 0 := rfl
  have N1 := numberC w.heap.size v xs (stZ xs) _ D0 (by omega)
  have b1 := numV_bd xs (stZ xs)
  have p1 := numS_pos xs (stZ xs)
  generalize numV xs (stZ xs) = a at N1 b1
  generalize numS xs (stZ xs) = s1 at N1 p1
  have p2 := nextS_pos xs 3 s1
  by_cases hc : (nextV xs 3 s1 == 3 - 1) = true ∨ a < 0
  · have b2 := numV_bd xs (nextS xs 3 s1)
    refine ⟨a, _, b1, b2, (drawNum_again v w.heap.size a (numV xs (nextS xs 3 s1)) _ w _ S (fun w1 => Drw w1 w.heap.size v xs s1 ∧ (w.alloc (.cells #[v, .int .i64 0, .int .i64 ((xs.length : Int) % 1000)] 41)).grownBy w1 (some w.heap.size))
      (fun w1 => Drw w1 w.heap.size v xs (nextS xs 3 s1) ∧ (w.alloc (.cells #[v, .int .i64 0, .int .i64 ((xs.length : Int) % 1000)] 41)).grownBy w1 (some w.heap.size))
      (fun w1 => (w.alloc (.cells #[v, .int .i64 0, .int .i64 ((xs.length : Int) % 1000)] 41)).grownBy w1 (some w.heap.size)) N1
      (fun w1 h => (chanceC w.heap.size v xs 3 s1 w1 h.1 (by omega) (by decide) (by decide)).mono fun e w2 k => ⟨k.1, k.2.1, grown_trans h.2 k.2.2⟩)
      (fun w1 h => (numberC w.heap.size v xs _ w1 h.1 (by omega)).mono fun e w2 k => ⟨k.1, grown_trans h.2 k.2.2⟩) hc).mono ?_⟩
    rintro e w' ⟨rfl, hg⟩
    exact ⟨rfl, grown_below rfl hg⟩
  · have hc0 : (nextV xs 3 s1 == 3 - 1) = false := by simpa using fun h => hc (Or.inl h)
    have ha : 0 ≤ a := by omega
    have q3 := nextS_pos xs 300 (nextS xs 3 s1)
    have q4 := nextS_pos xs 70000 (nextS xs 300 (nextS xs 3 s1))
    have q5 := nextS_pos xs 16777216 (nextS xs 70000 (nextS xs 300 (nextS xs 3 s1)))
    have v1 := nextV_bd xs 300 (nextS xs 3 s1) (by decide)
    have v2 := nextV_bd xs 70000 (nextS xs 300 (nextS xs 3 s1)) (by decide)
    have v3 := nextV_bd xs 16777216 (nextS xs 70000 (nextS xs 300 (nextS xs 3 s1))) (by decide)
    have v4 := nextV_bd xs 9 (nextS xs 16777216 (nextS xs 70000 (nextS xs 300 (nextS xs 3 s1)))) (by decide)
    obtain ⟨i, ei⟩ := Int.eq_ofNat_of_zero_le v4.1
    have hi : i < 9 := by omega
    have bd := tabN_bd _ _ _ i v1.1 v1.2 v2.1 v2.2 v3.1 v3.2 hi
    refine ⟨a, _, b1, sub_bd a _ ha b1.2 bd.1 bd.2, (drawNum_less v w.heap.size a _ _ _ i xs _ _ _ _ _ w _ (fun w1 => Drw w1 w.heap.size v xs s1 ∧ (w.alloc (.cells #[v, .int .i64 0, .int .i64 ((xs.length : Int) % 1000)] 41)).grownBy w1 (some w.heap.size)) S N1
      (fun w1 h => (chanceC w.heap.size v xs 3 s1 w1 h.1 (by omega) (by decide) (by decide)).mono fun e w2 k => ⟨by rw [k.1, hc0], k.2.1, grown_trans h.2 k.2.2⟩)
      (fun w1 h => nextC w.heap.size v xs 300 _ w1 h (by omega) (by decide) (by decide))
      (fun w1 h => nextC w.heap.size v xs 70000 _ w1 h (by omega) (by decide) (by decide))
      (fun w1 h => nextC w.heap.size v xs 16777216 _ w1 h (by omega) (by decide) (by decide))
      (fun w1 h => (nextC w.heap.size v xs 9 _ w1 h (by omega) (by decide) (by decide)).mono fun e w2 k => ⟨by rw [k.1, ei], k.2⟩)
      ha b1.2 v1.1 v1.2 v2.1 v2.2 v3.1 v3.2 hi _ bd.1 bd.2 (tabN_at _ _ _ i hi)).mono ?_⟩
    rintro e w' ⟨rfl, hg⟩
    exact ⟨rfl, grown_below rfl hg⟩
end Go.Proofs.Ytnafmmlikmppjab
