import Derived.Test.YtdoglkjhmaiknaaVals
import Derived.BigRegion
import Derived.Test.YtdoglkjhmaiknaaXor
import Derived.Test.YtdoglkjhmaiknaaBlocks
namespace Go.Proofs.Ytdoglkjhmaiknaa
open Go.RowKit
set_option linter.unusedVariables false

/-- The source's state: how many bytes were drawn, and the seed. -/
structure St where
  pos : Int
  seed : Int

def bytV (xs : List Int) (s : St) : Int :=
  if s.pos + 1 ≤ xs.length then xs.getD s.pos.toNat 0
  else if 4000 + 4 * (xs.length : Int) < s.pos + 1 then 0
  else (s.seed * 1103515245 + 12345) % 2147483648 / 65536 % 256
def bytS (xs : List Int) (s : St) : St :=
  ⟨s.pos + 1, if s.pos + 1 ≤ xs.length then (s.seed * 31 + xs.getD s.pos.toNat 0 + 7) % 2147483648
    else if 4000 + 4 * (xs.length : Int) < s.pos + 1 then s.seed
    else (s.seed * 1103515245 + 12345) % 2147483648⟩

/-- The same memory and streams (draws aside). -/
structure Like (w w' : World) : Prop where
  os : w'.os = w.os
  tape : w'.tape = w.tape
  output : w'.output = w.output
  heap : w'.heap = w.heap

set_option maxHeartbeats 1000000 in
theorem byte_in (g b off n cap a : Nat) (sd x : Int) (w : World) (hn : n ≤ 1048576) (ha : a < n) (hs0 : 0 ≤ sd) (hs1 : sd < 2147483648) (hx0 : 0 ≤ x) (hx1 : x < 256)
    (c0 : w.cell? ⟨g, 0, none⟩ = some (.slice (some ⟨b, off, none⟩) n cap)) (c1 : w.cell? ⟨g, 1, none⟩ = some (.int .i64 (a : Int))) (c2 : w.cell? ⟨g, 2, none⟩ = some (.int .i64 sd))
    (f1 : w.frozen? ⟨g, 1, none⟩ = false) (f2 : w.frozen? ⟨g, 2, none⟩ = false) (hbg : b ≠ g) (cx : w.cell? ⟨b, off + a, none⟩ = some (.int .u8 x)) :
    Calls Try.prog 19 #[.pointer (some ⟨g, 0, none⟩)] w fun e w' => e = .returned (.int .i64 x) ∧ Like ((w.setCell ⟨g, 1, none⟩ (.int .i64 ((a : Int) + 1))).setCell ⟨g, 2, none⟩ (.int .i64 ((sd * 31 + x + 7) % 2147483648))) w' := by
  go_enter Try.func19, Try.ntmps19
  go_wp2
  go_quiet (fail)
  go_wp2
  go_region
  go_wp2
  go_quiet (fail)
  go_wp2
  go_ret
  exact ⟨rfl, ⟨rfl, rfl, rfl, rfl⟩⟩

set_option maxHeartbeats 1000000 in
theorem byte_out (g n cap : Nat) (ao : Option Addr) (a sd : Int) (w : World) (hn : n ≤ 1048576) (ha0 : 0 ≤ a) (ha : (n : Int) ≤ a) (ha1 : a ≤ 1099511627776) (hs0 : 0 ≤ sd) (hs1 : sd < 2147483648) (hlim : a + 1 ≤ 4000 + 4 * (n : Int))
    (c0 : w.cell? ⟨g, 0, none⟩ = some (.slice ao n cap)) (c1 : w.cell? ⟨g, 1, none⟩ = some (.int .i64 a)) (c2 : w.cell? ⟨g, 2, none⟩ = some (.int .i64 sd))
    (f1 : w.frozen? ⟨g, 1, none⟩ = false) (f2 : w.frozen? ⟨g, 2, none⟩ = false) :
    Calls Try.prog 19 #[.pointer (some ⟨g, 0, none⟩)] w fun e w' => e = .returned (.int .i64 ((sd * 1103515245 + 12345) % 2147483648 / 65536 % 256)) ∧ Like ((w.setCell ⟨g, 1, none⟩ (.int .i64 (a + 1))).setCell ⟨g, 2, none⟩ (.int .i64 ((sd * 1103515245 + 12345) % 2147483648))) w' := by
  have h1 : decide (a + 1 ≤ (n : Int)) = false := by simp; omega
  have h2 : decide (4000 + 4 * (n : Int) < a + 1) = false := by simp; omega
  go_enter Try.func19, Try.ntmps19
  go_wp2
  go_quiet (fail)
  go_wp2
  go_quiet (fail)
  go_wp2
  go_ret
  exact ⟨rfl, ⟨rfl, rfl, rfl, rfl⟩⟩

set_option maxHeartbeats 1000000 in
theorem byte_end (g n cap : Nat) (ao : Option Addr) (a sd : Int) (w : World) (hn : n ≤ 1048576) (ha0 : 0 ≤ a) (ha1 : a ≤ 1099511627776) (hlim : 4000 + 4 * (n : Int) < a + 1)
    (c0 : w.cell? ⟨g, 0, none⟩ = some (.slice ao n cap)) (c1 : w.cell? ⟨g, 1, none⟩ = some (.int .i64 a)) (f1 : w.frozen? ⟨g, 1, none⟩ = false) :
    Calls Try.prog 19 #[.pointer (some ⟨g, 0, none⟩)] w fun e w' => e = .returned (.int .i64 0) ∧ Like (w.setCell ⟨g, 1, none⟩ (.int .i64 (a + 1))) w' := by
  have h1 : decide (a + 1 ≤ (n : Int)) = false := by simp; omega
  go_enter Try.func19, Try.ntmps19
  go_wp2
  go_quiet (fail)
  go_wp2
  go_quiet (fail)
  go_wp2
  go_ret
  exact ⟨rfl, ⟨rfl, rfl, rfl, rfl⟩⟩
end Go.Proofs.Ytdoglkjhmaiknaa

namespace Go.Proofs.Ytdoglkjhmaiknaa
open Go.RowKit
set_option linter.unusedVariables false

theorem blk_setCell {w : World} {g : Nat} {c : Array Value} {t : TypeId} {fr : Nat × Nat} (h : w.heap[g]? = some (.cells c t fr)) (o : Nat) (u : Value) : (w.setCell ⟨g, o, none⟩ u).heap[g]? = some (.cells (c.setIfInBounds o u) t fr) := by
  simp only [World.setCell, Array.getElem?_modify, if_true]
  rw [h]
  rfl
theorem blk_cell {w : World} {g : Nat} {c : Array Value} {t : TypeId} {fr : Nat × Nat} (h : w.heap[g]? = some (.cells c t fr)) (o : Nat) : w.cell? ⟨g, o, none⟩ = c[o]? := by
  simp [World.cell?, h]
theorem blk_free {w : World} {g : Nat} {c : Array Value} {t : TypeId} (h : w.heap[g]? = some (.cells c t (0, 0))) (o : Nat) : w.frozen? ⟨g, o, none⟩ = false := by
  simp [World.frozen?, h]

theorem grown_trans {a b c : World} {r : Option Nat} (h : a.grownBy b r) (k : b.grownBy c r) : a.grownBy c r :=
  ⟨k.os.trans h.os, k.tape.trans h.tape, k.output.trans h.output, Nat.le_trans h.size k.size, fun i hi hr => (k.block i (Nat.lt_of_lt_of_le hi h.size) hr).trans (h.block i hi hr)⟩
theorem grown_refl (a : World) (r : Option Nat) : a.grownBy a r := ⟨rfl, rfl, rfl, Nat.le_refl _, fun _ _ _ => rfl⟩
theorem Like.grown {w w' : World} (h : Like w w') (r : Option Nat) : w.grownBy w' r := ⟨h.os, h.tape, h.output, by rw [h.heap]; exact Nat.le_refl _, fun k _ _ => by rw [h.heap]⟩
theorem grown_setCell (w : World) (g o : Nat) (u : Value) : w.grownBy (w.setCell ⟨g, o, none⟩ u) (some g) :=
  ⟨rfl, rfl, rfl, by simp [World.setCell], fun k _ hk => Below.heap_setCell _ _ _ _ (fun e => hk (by rw [e]))⟩
theorem Row.grown {w w' : World} {k : IntKind} {v : Value} {xs : List Int} {r : Option Nat} (h : Row w k v xs) (hg : w.grownBy w' r) (ha : ∀ b off n cap, 0 < n → v = .slice (some ⟨b, off, none⟩) n cap → some b ≠ r) : Row w' k v xs := by
  rcases h with h | ⟨b, off, cap, e, hlt, hcap, hc⟩
  · exact Or.inl h
  · by_cases h0 : xs.length = 0
    · exact Or.inl ⟨List.eq_nil_of_length_eq_zero h0, some ⟨b, off, none⟩, cap, by rw [e, h0]⟩
    · refine Or.inr ⟨b, off, cap, e, Nat.lt_of_lt_of_le hlt hg.size, hcap, fun j hj => ?_⟩
      have hb := hg.block b hlt (ha b off _ cap (by omega) e)
      rw [← hc j hj]
      exact World.cell?_of_block (w := w) hb

/-- The source stands in block g: its code reads as xs, its state is s. -/
structure Drw (w : World) (g : Nat) (v : Value) (xs : List Int) (s : St) : Prop where
  blk : w.heap[g]? = some (.cells #[v, .int .i64 s.pos, .int .i64 s.seed] 53 (0, 0))
  row : Row w .u8 v xs
  apart : ∀ b off n cap, 0 < n → v = .slice (some ⟨b, off, none⟩) n cap → b ≠ g
  bytes : Bytes xs
  len : xs.length ≤ 1048576
  p0 : 0 ≤ s.pos
  s0 : 0 ≤ s.seed
  s1 : s.seed < 2147483648

theorem Drw.kept {w w' : World} {g : Nat} {v : Value} {xs : List Int} {s : St} {r : Option Nat} (h : Drw w g v xs s) (hg : w.grownBy w' r) (h1 : some g ≠ r) (h2 : ∀ b off n cap, 0 < n → v = .slice (some ⟨b, off, none⟩) n cap → some b ≠ r) : Drw w' g v xs s :=
  ⟨(hg.block g (Array.getElem?_eq_some_iff.1 h.blk).1 h1).trans h.blk, h.row.grown hg h2, h.apart, h.bytes, h.len, h.p0, h.s0, h.s1⟩

theorem Drw.form {w : World} {g : Nat} {v : Value} {xs : List Int} {s : St} (h : Drw w g v xs s) :
    w.cell? ⟨g, 0, none⟩ = some v ∧ w.cell? ⟨g, 1, none⟩ = some (.int .i64 s.pos) ∧ w.cell? ⟨g, 2, none⟩ = some (.int .i64 s.seed) ∧ w.frozen? ⟨g, 1, none⟩ = false ∧ w.frozen? ⟨g, 2, none⟩ = false :=
  ⟨by rw [blk_cell h.blk]; rfl, by rw [blk_cell h.blk]; rfl, by rw [blk_cell h.blk]; rfl, blk_free h.blk 1, blk_free h.blk 2⟩

theorem bytV_bd (xs : List Int) (s : St) (hB : Bytes xs) : 0 ≤ bytV xs s ∧ bytV xs s < 256 := by
  unfold bytV
  split
  · exact hB.at _
  · split
    · decide
    · omega
theorem bytS_bd (xs : List Int) (s : St) (h0 : 0 ≤ s.seed) (h1 : s.seed < 2147483648) : 0 ≤ (bytS xs s).seed ∧ (bytS xs s).seed < 2147483648 := by
  unfold bytS
  simp only
  split
  · omega
  · split
    · exact ⟨h0, h1⟩
    · omega
theorem bytS_pos (xs : List Int) (s : St) : (bytS xs s).pos = s.pos + 1 := rfl

theorem drw_store {w w' : World} {g : Nat} {v : Value} {xs : List Int} {s : St} (h : Drw w g v xs s) (p sd : Int) (hp : 0 ≤ p) (h0 : 0 ≤ sd) (h1 : sd < 2147483648)
    (hl : Like ((w.setCell ⟨g, 1, none⟩ (.int .i64 p)).setCell ⟨g, 2, none⟩ (.int .i64 sd)) w') : Drw w' g v xs ⟨p, sd⟩ ∧ w.grownBy w' (some g) := by
  have hg : w.grownBy w' (some g) := grown_trans (grown_trans (grown_setCell w g 1 _) (grown_setCell _ g 2 _)) (hl.grown _)
  refine ⟨⟨?_, h.row.grown hg (fun b off n cap h0 e => fun e' => h.apart b off n cap h0 e (Option.some.inj e')), h.apart, h.bytes, h.len, hp, h0, h1⟩, hg⟩
  rw [hl.heap, blk_setCell (blk_setCell h.blk 1 _) 2 _]
  rfl
theorem drw_store1 {w w' : World} {g : Nat} {v : Value} {xs : List Int} {s : St} (h : Drw w g v xs s) (p : Int) (hp : 0 ≤ p)
    (hl : Like (w.setCell ⟨g, 1, none⟩ (.int .i64 p)) w') : Drw w' g v xs ⟨p, s.seed⟩ ∧ w.grownBy w' (some g) := by
  have hg : w.grownBy w' (some g) := grown_trans (grown_setCell w g 1 _) (hl.grown _)
  refine ⟨⟨?_, h.row.grown hg (fun b off n cap h0 e => fun e' => h.apart b off n cap h0 e (Option.some.inj e')), h.apart, h.bytes, h.len, hp, h.s0, h.s1⟩, hg⟩
  rw [hl.heap, blk_setCell h.blk 1 _]
  rfl

theorem byteC (g : Nat) (v : Value) (xs : List Int) (s : St) (w : World) (h : Drw w g v xs s) (hp : s.pos ≤ 1099511627776) :
    Calls Try.prog 19 #[.pointer (some ⟨g, 0, none⟩)] w fun e w' => e = .returned (.int .i64 (bytV xs s)) ∧ Drw w' g v xs (bytS xs s) ∧ w.grownBy w' (some g) := by
  obtain ⟨c0, c1, c2, f1, f2⟩ := h.form
  have hB := bytS_bd xs s h.s0 h.s1
  have h0 := h.p0
  by_cases hin : s.pos + 1 ≤ xs.length
  · obtain ⟨a, ea⟩ := Int.eq_ofNat_of_zero_le h.p0
    have hn : a < xs.length := by omega
    obtain ⟨b, off, cap, rfl, hb, hc⟩ := h.row.at (by omega)
    have hx := h.bytes.at a
    have e1 : bytV xs s = xs.getD a 0 := by unfold bytV; rw [if_pos hin, ea]; rfl
    have e2 : bytS xs s = ⟨(a : Int) + 1, (s.seed * 31 + xs.getD a 0 + 7) % 2147483648⟩ := by unfold bytS; rw [if_pos hin, ea]; rfl
    rw [e1, e2]
    rw [ea] at c1
    refine (byte_in g b off xs.length cap a s.seed (xs.getD a 0) w h.len hn h.s0 h.s1 hx.1 hx.2 c0 c1 c2 f1 f2 (h.apart _ _ _ _ (by omega) rfl) (hc a hn)).mono ?_
    rintro e w' ⟨rfl, hl⟩
    exact ⟨rfl, drw_store h _ _ (by omega) (by omega) (by omega) hl⟩
  · obtain ⟨ao, cap, hv⟩ := h.row.form
    rw [hv] at c0
    by_cases hlim : 4000 + 4 * (xs.length : Int) < s.pos + 1
    · have e1 : bytV xs s = 0 := by unfold bytV; rw [if_neg hin, if_pos hlim]
      have e2 : bytS xs s = ⟨s.pos + 1, s.seed⟩ := by unfold bytS; rw [if_neg hin, if_pos hlim]
      rw [e1, e2]
      refine (byte_end g xs.length cap ao s.pos s.seed w h.len h.p0 hp hlim c0 c1 f1).mono ?_
      rintro e w' ⟨rfl, hl⟩
      exact ⟨rfl, drw_store1 h _ (by omega) hl⟩
    · have e1 : bytV xs s = (s.seed * 1103515245 + 12345) % 2147483648 / 65536 % 256 := by unfold bytV; rw [if_neg hin, if_neg hlim]
      have e2 : bytS xs s = ⟨s.pos + 1, (s.seed * 1103515245 + 12345) % 2147483648⟩ := by unfold bytS; rw [if_neg hin, if_neg hlim]
      rw [e1, e2]
      refine (byte_out g xs.length cap ao s.pos s.seed w h.len h.p0 (by omega) hp h.s0 h.s1 (by omega) c0 c1 c2 f1 f2).mono ?_
      rintro e w' ⟨rfl, hl⟩
      exact ⟨rfl, drw_store h _ _ (by omega) (by omega) (by omega) hl⟩

/-- One of 0 to n - 1. -/
def nextV (xs : List Int) (n : Int) (s : St) : Int :=
  if n ≤ 1 then 0 else if n ≤ 256 then bytV xs s % n
  else (bytV xs s * 65536 + bytV xs (bytS xs s) * 256 + bytV xs (bytS xs (bytS xs s))) % n
def nextS (xs : List Int) (n : Int) (s : St) : St :=
  if n ≤ 1 then s else if n ≤ 256 then bytS xs s else bytS xs (bytS xs (bytS xs s))
theorem nextV_bd (xs : List Int) (n : Int) (s : St) (hn : 1 ≤ n) : 0 ≤ nextV xs n s ∧ nextV xs n s < n := by
  unfold nextV
  split
  · omega
  · split
    · exact ⟨Int.emod_nonneg _ (by omega), Int.emod_lt_of_pos _ (by omega)⟩
    · exact ⟨Int.emod_nonneg _ (by omega), Int.emod_lt_of_pos _ (by omega)⟩
theorem nextS_pos (xs : List Int) (n : Int) (s : St) : s.pos ≤ (nextS xs n s).pos ∧ (nextS xs n s).pos ≤ s.pos + 3 := by
  unfold nextS
  split
  · omega
  · split
    · simp only [bytS_pos]; omega
    · simp only [bytS_pos]; omega

set_option maxHeartbeats 400000 in
theorem nextC (g : Nat) (v : Value) (xs : List Int) (n : Int) (s : St) (w : World) (h : Drw w g v xs s) (hp : s.pos ≤ 1099511627000) (hn0 : 1 ≤ n) (hn1 : n ≤ 2147483648) :
    Calls Try.prog 9 #[.pointer (some ⟨g, 0, none⟩), .int .i64 n] w fun e w' => e = .returned (.int .i64 (nextV xs n s)) ∧ Drw w' g v xs (nextS xs n s) ∧ w.grownBy w' (some g) := by
  by_cases h1 : n ≤ 1
  · have e1 : nextV xs n s = 0 := by unfold nextV; rw [if_pos h1]
    have e2 : nextS xs n s = s := by unfold nextS; rw [if_pos h1]
    rw [e1, e2]
    have HD : Hid (Drw w g v xs s) := h
    clear h e1 e2
    go_enter Try.func9, Try.ntmps9
    go_wp2
    go_ret
    exact ⟨rfl, HD.out, grown_refl _ _⟩
  · have B1 := byteC g v xs s w h (by omega)
    have x1 := bytV_bd xs s h.bytes
    by_cases h2 : n ≤ 256
    · have e1 : nextV xs n s = bytV xs s % n := by unfold nextV; rw [if_neg h1, if_pos h2]
      have e2 : nextS xs n s = bytS xs s := by unfold nextS; rw [if_neg h1, if_pos h2]
      rw [e1, e2]
      generalize bytV xs s = x at B1 x1
      clear h e1 e2
      go_enter Try.func9, Try.ntmps9
      go_wp2_with (go_at_call 19; refine B1.mono ?_; rintro e w1 ⟨rfl, hd1, hg1⟩)
      go_ret
      exact ⟨rfl, hd1, hg1⟩
    · have e1 : nextV xs n s = (bytV xs s * 65536 + bytV xs (bytS xs s) * 256 + bytV xs (bytS xs (bytS xs s))) % n := by unfold nextV; rw [if_neg h1, if_neg h2]
      have e2 : nextS xs n s = bytS xs (bytS xs (bytS xs s)) := by unfold nextS; rw [if_neg h1, if_neg h2]
      rw [e1, e2]
      have x2 := bytV_bd xs (bytS xs s) h.bytes
      have x3 := bytV_bd xs (bytS xs (bytS xs s)) h.bytes
      have B2 : ∀ w, Drw w g v xs (bytS xs s) → _ := fun w h => byteC g v xs (bytS xs s) w h (by rw [bytS_pos]; omega)
      have B3 : ∀ w, Drw w g v xs (bytS xs (bytS xs s)) → _ := fun w h => byteC g v xs (bytS xs (bytS xs s)) w h (by rw [bytS_pos, bytS_pos]; omega)
      generalize bytV xs s = y1 at B1 x1
      generalize bytV xs (bytS xs s) = y2 at B2 x2
      generalize bytV xs (bytS xs (bytS xs s)) = y3 at B3 x3
      clear h e1 e2
      go_enter Try.func9, Try.ntmps9
      go_wp2_with fail
      go_at_call 19
      refine B1.mono ?_
      rintro e w1 ⟨rfl, hd1, hg1⟩
      go_wp2_with fail
      go_at_call 19
      refine (B2 _ hd1).mono ?_
      rintro e w2 ⟨rfl, hd2, hg2⟩
      go_wp2_with fail
      go_at_call 19
      refine (B3 _ hd2).mono ?_
      rintro e w3 ⟨rfl, hd3, hg3⟩
      go_wp2
      go_ret
      exact ⟨rfl, hd3, grown_trans (grown_trans hg1 hg2) hg3⟩
end Go.Proofs.Ytdoglkjhmaiknaa

namespace Go.Proofs.Ytdoglkjhmaiknaa
open Go.RowKit
set_option linter.unusedVariables false

theorem chanceC (g : Nat) (v : Value) (xs : List Int) (n : Int) (s : St) (w : World) (h : Drw w g v xs s) (hp : s.pos ≤ 1099511627000) (hn0 : 1 ≤ n) (hn1 : n ≤ 2147483648) :
    Calls Try.prog 11 #[.pointer (some ⟨g, 0, none⟩), .int .i64 n] w fun e w' => e = .returned (.bool (nextV xs n s == n - 1)) ∧ Drw w' g v xs (nextS xs n s) ∧ w.grownBy w' (some g) := by
  have N := nextC g v xs n s w h hp hn0 hn1
  generalize nextV xs n s = x at N
  clear h
  go_enter Try.func11, Try.ntmps11
  go_wp2_with (go_at_call 9; refine N.mono ?_; rintro e w1 ⟨rfl, hd1, hg1⟩)
  go_ret
  exact ⟨rfl, hd1, hg1⟩

def szV (xs : List Int) (m : Int) : Int := if 1 + (xs.length : Int) / 12 ≤ m then 1 + (xs.length : Int) / 12 else m
theorem sizeC (g : Nat) (v : Value) (xs : List Int) (m : Int) (s : St) (w : World) (h : Drw w g v xs s) (hm0 : 0 ≤ m) (hm1 : m ≤ 2147483648) :
    Calls Try.prog 10 #[.pointer (some ⟨g, 0, none⟩), .int .i64 m] w fun e w' => e = .returned (.int .i64 (szV xs m)) ∧ w' = w := by
  obtain ⟨ao, cap, hv⟩ := h.row.form
  have c0 := h.form.1
  have hl := h.len
  rw [hv] at c0
  clear h hv
  obtain ⟨n, en⟩ : ∃ n, n = xs.length := ⟨_, rfl⟩
  have e : szV xs m = if 1 + (n : Int) / 12 ≤ m then 1 + (n : Int) / 12 else m := by unfold szV; rw [en]
  rw [e]
  rw [← en] at c0 hl
  clear e en
  by_cases hc : 1 + (n : Int) / 12 ≤ m
  · rw [if_pos hc]
    go_enter Try.func10, Try.ntmps10
    go_wp2
    go_ret
    refine ⟨?_, rfl⟩
    first | rfl | (congr 1; congr 1; omega) | (simp; omega)
  · rw [if_neg hc]
    go_enter Try.func10, Try.ntmps10
    go_wp2
    go_ret
    refine ⟨?_, rfl⟩
    first | rfl | (congr 1; congr 1; omega) | (simp; omega)

def tab9 : List Int := [0, 63, 64, 16383, 16384, 1073741823, 1073741824, 4611686018427387903, 4611686018427387902]
def tab4 : List Int := [-1, 4611686018427387904, 9223372036854775807, -9223372036854775808]

/-- What was laid in a new block ahead of the source's step is there behind it. -/
theorem laid_cell {w w' : World} {g B i : Nat} {ts : List Int} {e : TypeId} (hg : (w.alloc (.cells (ts.map (Value.int .i64)).toArray e)).grownBy w' (some g)) (hgB : g < w.heap.size) (hB : B = w.heap.size) (hi : i < ts.length) :
    w'.cell? ⟨B, i, none⟩ = some (.int .i64 (ts.getD i 0)) := by
  subst hB
  have h1 : w'.heap[w.heap.size]? = some (.cells (ts.map (Value.int .i64)).toArray e (0, 0)) := by
    rw [hg.block w.heap.size (by simp) (fun h => by have := Option.some.inj h; omega)]
    exact (MapKept.heap_alloc w _).1
  rw [blk_cell h1]
  simp [List.getD, hi]

def numV (xs : List Int) (s : St) : Int :=
  if nextV xs 12 s = 0 then tab9.getD (nextV xs 9 (nextS xs 12 s)).toNat 0
  else if nextV xs 12 s = 1 then nextV xs 16777216 (nextS xs 12 s) * 65536 + nextV xs 65536 (nextS xs 16777216 (nextS xs 12 s))
  else if nextV xs 12 s = 2 then tab4.getD (nextV xs 4 (nextS xs 12 s)).toNat 0
  else if nextV xs 12 s = 3 ∨ nextV xs 12 s = 4 then nextV xs 20000 (nextS xs 12 s)
  else nextV xs 100 (nextS xs 12 s)
def numS (xs : List Int) (s : St) : St :=
  if nextV xs 12 s = 0 then nextS xs 9 (nextS xs 12 s)
  else if nextV xs 12 s = 1 then nextS xs 65536 (nextS xs 16777216 (nextS xs 12 s))
  else if nextV xs 12 s = 2 then nextS xs 4 (nextS xs 12 s)
  else if nextV xs 12 s = 3 ∨ nextV xs 12 s = 4 then nextS xs 20000 (nextS xs 12 s)
  else nextS xs 100 (nextS xs 12 s)
theorem numS_pos (xs : List Int) (s : St) : s.pos ≤ (numS xs s).pos ∧ (numS xs s).pos ≤ s.pos + 9 := by
  have h1 := nextS_pos xs 12 s
  have h2 := fun n => nextS_pos xs n (nextS xs 12 s)
  have h3 := nextS_pos xs 65536 (nextS xs 16777216 (nextS xs 12 s))
  unfold numS
  split
  · have := h2 9; omega
  · split
    · have := h2 16777216; omega
    · split
      · have := h2 4; omega
      · split
        · have := h2 20000; omega
        · have := h2 100; omega
theorem drw_lt {w : World} {g : Nat} {v : Value} {xs : List Int} {s : St} (h : Drw w g v xs s) : g < w.heap.size := (Array.getElem?_eq_some_iff.1 h.blk).1
theorem drw_alloc {w : World} {g : Nat} {v : Value} {xs : List Int} {s : St} (h : Drw w g v xs s) (o : Obj) : Drw (w.alloc o) g v xs s :=
  h.kept (World.grownBy_alloc w o none) (by simp) (by intros; simp)

end Go.Proofs.Ytdoglkjhmaiknaa

namespace Go.Proofs.Ytdoglkjhmaiknaa
open Go.RowKit
set_option linter.unusedVariables false

def gdV (xs : List Int) (s : St) : Int := if numV xs s < 0 ∨ 4611686018427387903 < numV xs s then nextV xs 50 (numS xs s) else numV xs s
def gdS (xs : List Int) (s : St) : St := if numV xs s < 0 ∨ 4611686018427387903 < numV xs s then nextS xs 50 (numS xs s) else numS xs s
theorem gdS_pos (xs : List Int) (s : St) : s.pos ≤ (gdS xs s).pos ∧ (gdS xs s).pos ≤ s.pos + 12 := by
  have h1 := numS_pos xs s
  have h2 := nextS_pos xs 50 (numS xs s)
  unfold gdS; split <;> omega

/-- The states behind k good numbers; the numbers. -/
def itS (xs : List Int) (s : St) : Nat → St
  | 0 => s
  | k + 1 => gdS xs (itS xs s k)
def itV (xs : List Int) (s : St) (k : Nat) : Int := gdV xs (itS xs s k)
def lst (N : Nat → Int) (k : Nat) : List Int := (List.range k).map N
theorem lst_length (N : Nat → Int) (k : Nat) : (lst N k).length = k := by simp [lst]
theorem lst_succ (N : Nat → Int) (k : Nat) : lst N (k + 1) = lst N k ++ [N k] := by simp [lst, List.range_succ]
theorem itS_pos (xs : List Int) (s : St) (k : Nat) : s.pos ≤ (itS xs s k).pos ∧ (itS xs s k).pos ≤ s.pos + 12 * k := by
  induction k with
  | zero => simp [itS]
  | succ k ih =>
    have := gdS_pos xs (itS xs s k)
    simp only [itS]
    omega

theorem grown_own {w wr w2 : World} {g : Nat} {r : Option Nat} (h : w.grownBy wr (some g)) (h2 : wr.grownBy w2 r) (hr : ∀ k, r = some k → w.heap.size ≤ k) : w.grownBy w2 (some g) :=
  ⟨h2.os.trans h.os, h2.tape.trans h.tape, h2.output.trans h.output, Nat.le_trans h.size h2.size, fun i hi hg =>
    (h2.block i (Nat.lt_of_lt_of_le hi h.size) (fun e => by have := hr i e.symm; omega)).trans (h.block i hi hg)⟩

/-- Where the code of the source lies: not in a block from 'base' on. -/
def Low (base : Nat) (v : Value) : Prop := ∀ b off n cap, 0 < n → v = .slice (some ⟨b, off, none⟩) n cap → b < base

/-- What one append behind a step of the source does. -/
theorem src_push {w wr w1 w2 : World} {g k : Nat} {c v v' : Value} {xs : List Int} {s' : St} {N : Nat → Int} {o : Obj} (hlow : Low w.heap.size c) (hgl : g < w.heap.size)
    (hown : wr.ownsRow w.heap.size 3 1 v k ((lst N k).map (Value.int .i64))) (hg : w.grownBy wr (some g)) (hg1 : wr.grownBy w1 (some g)) (hd1 : Drw w1 g c xs s')
    (hown2 : w2.ownsRow w.heap.size 3 1 v' (k + 1) ((lst N k).map (Value.int .i64) ++ [Value.int .i64 (N k)])) (hgrow : (w1.alloc o).grownBy w2 v.ownBlock) :
    w2.ownsRow w.heap.size 3 1 v' (k + 1) ((lst N (k + 1)).map (Value.int .i64)) ∧ Drw w2 g c xs s' ∧ w.grownBy w2 (some g) := by
  have hr : ∀ j, v.ownBlock = some j → w.heap.size ≤ j := fun j hj => (hown.lt j hj).1
  refine ⟨by rw [lst_succ, List.map_append]; exact hown2, ?_, ?_⟩
  · refine (drw_alloc hd1 o).kept hgrow (fun e => by have := hr g e.symm; omega) (fun b off n cap h0 e e' => ?_)
    have h1 := hlow b off n cap h0 e
    have h2 := hr b e'.symm
    omega
  · exact grown_own (grown_trans (grown_trans hg hg1) (World.grownBy_alloc w1 o (some g))) hgrow hr

theorem own_step {wr w1 : World} {base e k g : Nat} {v : Value} {xs : List Value} (hown : wr.ownsRow base e 1 v k xs) (hg1 : wr.grownBy w1 (some g)) (hgl : g < base) : w1.ownsRow base e 1 v k xs := by
  refine hown.kept hg1 ?_
  cases hv : v.ownBlock with
  | none => exact Or.inl rfl
  | some j =>
    right
    intro e
    have := (hown.lt j hv).1
    have := Option.some.inj e
    omega

theorem infoInts : (Try.prog.info? 3).map (fun i => (i.zero, i.size, i.bytes)) = some (some (.int .i64 0), 1, 8) := by kernel_rfl

def lsN (xs : List Int) (s : St) : Nat := (nextV xs (szV xs 40 + 1) s).toNat
def lsS (xs : List Int) (s : St) : St := nextS xs (szV xs 40 + 1) s
theorem szV_bd (xs : List Int) : 1 ≤ szV xs 40 ∧ szV xs 40 ≤ 40 := by unfold szV; split <;> omega
theorem lsN_bd (xs : List Int) (s : St) : lsN xs s ≤ 40 ∧ ((lsN xs s : Nat) : Int) = nextV xs (szV xs 40 + 1) s := by
  have h1 := szV_bd xs
  have h2 := nextV_bd xs (szV xs 40 + 1) s (by omega)
  unfold lsN; omega

end Go.Proofs.Ytdoglkjhmaiknaa

namespace Go.Proofs.Ytdoglkjhmaiknaa
open Go.RowKit
set_option linter.unusedVariables false

/-- The source's states behind k drawn bytes; the bytes. -/
def bysS (xs : List Int) (s : St) : Nat → St
  | 0 => s
  | k + 1 => bytS xs (bysS xs s k)
def bysV (xs : List Int) (s : St) (n : Nat) : List Int := (List.range n).map fun k => bytV xs (bysS xs s k)
theorem bysV_length (xs : List Int) (s : St) (n : Nat) : (bysV xs s n).length = n := by simp [bysV]
theorem bysV_succ (xs : List Int) (s : St) (n : Nat) : bysV xs s (n + 1) = bysV xs s n ++ [bytV xs (bysS xs s n)] := by simp [bysV, List.range_succ]
theorem bysS_pos (xs : List Int) (s : St) (k : Nat) : (bysS xs s k).pos = s.pos + k := by
  induction k with
  | zero => simp [bysS]
  | succ k ih => simp only [bysS, bytS_pos, ih]; omega
theorem bysV_bytes (xs : List Int) (s : St) (n : Nat) (h : Bytes xs) : Bytes (bysV xs s n) := by
  intro x hx
  obtain ⟨j, _, rfl⟩ := List.mem_map.1 hx
  exact bytV_bd xs _ h

theorem src_pushB {w wr w1 w2 : World} {g k : Nat} {c v : Value} {xs : List Int} {s s' : St} {o : Obj} (hlow : Low w.heap.size c) (hgl : g < w.heap.size)
    (hown : wr.ownsRow w.heap.size 5 1 v k ((bysV xs s k).map (Value.int .u8))) (hg : w.grownBy wr (some g)) (hg1 : wr.grownBy w1 (some g)) (hd1 : Drw w1 g c xs s') (hgrow : (w1.alloc o).grownBy w2 v.ownBlock) :
    Drw w2 g c xs s' ∧ w.grownBy w2 (some g) := by
  have hr : ∀ j, v.ownBlock = some j → w.heap.size ≤ j := fun j hj => (hown.lt j hj).1
  refine ⟨?_, ?_⟩
  · refine (drw_alloc hd1 o).kept hgrow (fun e => by have := hr g e.symm; omega) (fun b off n cap h0 e e' => ?_)
    have h1 := hlow b off n cap h0 e
    have h2 := hr b e'.symm
    omega
  · exact grown_own (grown_trans (grown_trans hg hg1) (World.grownBy_alloc w1 o (some g))) hgrow hr

set_option maxHeartbeats 1000000 in
theorem bytesC (g : Nat) (c : Value) (xs : List Int) (s : St) (n : Nat) (w : World) (h : Drw w g c xs s) (hlow : Low w.heap.size c) (hp : s.pos ≤ 1099511500000) (hn : n ≤ 65536) :
    Calls Try.prog 12 #[.pointer (some ⟨g, 0, none⟩), .int .i64 (n : Int)] w fun e w' => ∃ r, e = .returned r ∧ w'.ownsRow w.heap.size 5 1 r n ((bysV xs s n).map (Value.int .u8)) ∧ Drw w' g c xs (bysS xs s n) ∧ w.grownBy w' (some g) := by
  have hgl := drw_lt h
  have hB := h.bytes
  have HG : Hid (∀ (k : Nat) (wr : World), k ≤ 65536 → Drw wr g c xs (bysS xs s k) → Calls Try.prog 19 #[.pointer (some ⟨g, 0, none⟩)] wr fun e w' => e = .returned (.int .i64 (bytV xs (bysS xs s k))) ∧ Drw w' g c xs (bysS xs s (k + 1)) ∧ wr.grownBy w' (some g)) :=
    fun k wr hk hd => byteC g c xs (bysS xs s k) wr hd (by rw [bysS_pos]; omega)
  have HD : Hid _ := And.intro h (And.intro hlow hB)
  clear h hlow hB
  go_enter Try.func12, Try.ntmps12
  go_wp2
  go_loopw [5, 6] (fun v i wr => ∃ k : Nat, k ≤ n ∧ i = .int .i64 (k : Int) ∧ wr.ownsRow w.heap.size 5 1 v k ((bysV xs s k).map (Value.int .u8)) ∧ Drw wr g c xs (bysS xs s k) ∧ w.grownBy wr (some g)) (fun _ i _ => n - (intOf i).toNat)
  case atStart => exact ⟨0, by omega, rfl, World.ownsRow_lit _ #[] 0 (Nat.le_refl _) (by decide) rfl, drw_alloc HD.out.1 _, World.grownBy_alloc w _ (some g)⟩
  case round =>
    obtain ⟨k, hk, rfl, hown, hd, hg⟩ := hrel
    by_cases hlt : k < n
    · have C := HG.out k wr (by omega) hd
      have hx := bytV_bd xs (bysS xs s k) HD.out.2.2
      obtain ⟨x, ex⟩ : ∃ x, x = bytV xs (bysS xs s k) := ⟨_, rfl⟩
      rw [← ex] at C hx
      have EX : Hid (x = bytV xs (bysS xs s k)) := ex
      have HO : Hid _ := And.intro hown (And.intro hd hg)
      clear ex hown hd hg
      go_wp2_with fail
      go_at_call 19
      refine C.mono ?_
      rintro e w1 ⟨rfl, hd1, hg1⟩
      have HS : Hid _ := And.intro hd1 hg1
      clear hd1 hg1 C
      have oo : Hid ((w1.alloc (.cells #[.int .u8 x] 5)).ownsRow w.heap.size 5 1 _ k ((bysV xs s k).map (Value.int .u8))) := (own_step HO.out.1 HS.out.2 hgl).alloc _
      have hb1 : w.heap.size ≤ (w1.alloc (.cells #[.int .u8 x] 5)).heap.size := by have a := HO.out.2.2.size; have b := HS.out.2.size; simp; omega
      go_wp2_with (at_builtin; refine wpList_append_row rfl (.tmp 13) (.tmp 17) rfl w.heap.size _ k (bysV xs s k) rfl oo.out _ [x] rfl (one_byte w1 x) (by simp; omega) hb1 ?_; intro v3 w3 o3 g3)
      have P := src_pushB (s := s) HD.out.2.1 hgl HO.out.1 HO.out.2.2 HS.out.2 HS.out.1 g3
      have HR : Hid _ := And.intro o3 P
      clear o3 g3 P
      go_wp2
      go_roundw
      case rel =>
        refine ⟨k + 1, by omega, by go_num, ?_, HR.out.2.1, HR.out.2.2⟩
        rw [bysV_succ, ← EX.out]
        exact HR.out.1
      case measure => simp [intOf]; omega
    · obtain rfl : k = n := by omega
      have HR : Hid _ := And.intro hown (And.intro hd hg)
      clear hown hd hg
      go_wp2
      go_ret
      exact ⟨_, rfl, HR.out.1, HR.out.2.1, HR.out.2.2⟩
end Go.Proofs.Ytdoglkjhmaiknaa

namespace Go.Proofs.Ytdoglkjhmaiknaa
open Go.RowKit
set_option linter.unusedVariables false

def stZ (xs : List Int) : St := ⟨0, (xs.length : Int) % 1000⟩

theorem sourceC (v : Value) (xs : List Int) (w : World) (hrow : Row w .u8 v xs) (hB : Bytes xs) (hl : xs.length ≤ 1048576) :
    Calls Try.prog 8 #[v] w fun e w' => e = .returned (.pointer (some ⟨w.heap.size, 0, none⟩)) ∧ w' = w.alloc (.cells #[v, .int .i64 0, .int .i64 ((xs.length : Int) % 1000)] 53) := by
  obtain ⟨ao, cap, rfl⟩ := hrow.form
  clear hrow hB
  generalize xs.length = n at *
  go_enter Try.func8, Try.ntmps8
  go_wp2
  go_ret
  exact ⟨rfl, rfl⟩

theorem drw_new {w : World} {v : Value} {xs : List Int} (hrow : Row w .u8 v xs) (hB : Bytes xs) (hl : xs.length ≤ 1048576) :
    Drw (w.alloc (.cells #[v, .int .i64 0, .int .i64 ((xs.length : Int) % 1000)] 53)) w.heap.size v xs (stZ xs) := by
  refine ⟨(MapKept.heap_alloc w _).1, hrow.grown (World.grownBy_alloc w _ none) (by intros; simp), ?_, hB, hl, Int.le_refl 0, by show 0 ≤ (xs.length : Int) % 1000; omega, by show (xs.length : Int) % 1000 < 2147483648; omega⟩
  intro b off n cap h0 e
  rcases hrow with ⟨rfl, ao, cap', e'⟩ | ⟨b', off', cap', e', hb, _⟩
  · rw [e] at e'; cases e'; omega
  · rw [e] at e'; cases e'; omega
theorem grown_belowS {w w1 w2 : World} {o : Obj} (h1 : w1 = w.alloc o) (h2 : w1.grownBy w2 (some w.heap.size)) : Below w.heap.size w w2 := by
  subst h1
  refine ⟨h2.os, h2.tape, h2.output, ?_, fun k hk => ?_⟩
  · have := h2.size; simp at this; omega
  · rw [h2.block k (by simp; omega) (fun e => by have := Option.some.inj e; omega)]
    exact Below.heap_alloc w o k hk

end Go.Proofs.Ytdoglkjhmaiknaa

namespace Go.Proofs.Ytdoglkjhmaiknaa
open Go.RowKit
set_option linter.unusedVariables false

/-- The source stands, at whatever state. -/
def Dt (W : World) (g : Nat) (c : Value) (xs : List Int) (p : Int) : Prop := Low g c ∧ ∃ s, Drw W g c xs s ∧ s.pos ≤ p
theorem Dt.lt {W : World} {g : Nat} {c : Value} {xs : List Int} {p : Int} (h : Dt W g c xs p) : g < W.heap.size := by
  obtain ⟨_, s, hd, _⟩ := h
  exact drw_lt hd
theorem Dt.mono {W : World} {g : Nat} {c : Value} {xs : List Int} {p q : Int} (h : Dt W g c xs p) (hq : p ≤ q) : Dt W g c xs q := by
  obtain ⟨l, s, hd, hp⟩ := h
  exact ⟨l, s, hd, Int.le_trans hp hq⟩
theorem Dt.alloc {W : World} {g : Nat} {c : Value} {xs : List Int} {p : Int} (h : Dt W g c xs p) (o : Obj) : Dt (W.alloc o) g c xs p := by
  obtain ⟨l, s, hd, hp⟩ := h
  exact ⟨l, s, drw_alloc hd o, hp⟩
theorem Dt.set {W : World} {g b i : Nat} {c u : Value} {xs : List Int} {p : Int} (h : Dt W g c xs p) (hb : g < b) : Dt (W.setCell ⟨b, i, none⟩ u) g c xs p := by
  obtain ⟨l, s, hd, hp⟩ := h
  exact ⟨l, s, hd.kept (grown_setCell W b i u) (fun e => by have := Option.some.inj e; omega) (fun b' off n cap h0 e e' => by have := l b' off n cap h0 e; have := Option.some.inj e'; omega), hp⟩
theorem grownT_set {w wx : World} {g b i : Nat} {u : Value} (h : w.grownBy wx (some g)) (hb : w.heap.size ≤ b) : w.grownBy (wx.setCell ⟨b, i, none⟩ u) (some g) :=
  grown_own h (grown_setCell wx b i u) (fun k e => by have := Option.some.inj e; omega)
theorem Dt.row {W W' : World} {g : Nat} {c v : Value} {xs ys : List Int} {p : Int} (hd : Dt W g c xs p) (h : Row W .u8 v ys) (gr : W.grownBy W' (some g)) : Row W' .u8 v ys := by
  obtain ⟨_, s, hd, _⟩ := hd
  rcases h with h | ⟨b, off, cap, rfl, hb, hcap, hc⟩
  · exact Or.inl h
  · by_cases h0 : 0 < ys.length
    · have hne : b ≠ g := by
        intro e
        subst e
        have h1 := hc 0 h0
        rw [Nat.add_zero] at h1
        have h2 : W.cell? ⟨b, off, none⟩ = (#[c, .int .i64 s.pos, .int .i64 s.seed] : Array Value)[off]? := by simp [World.cell?, hd.blk]
        rw [h2] at h1
        obtain ⟨ao, cp, ec⟩ := hd.row.form
        match off, h1 with
        | 0, h1 => rw [ec] at h1; simp at h1
        | 1, h1 => simp at h1
        | 2, h1 => simp at h1
        | o + 3, h1 => simp at h1
      have hq := gr.block b hb (fun e => hne (Option.some.inj e))
      refine Or.inr ⟨b, off, cap, rfl, Nat.lt_of_lt_of_le hb gr.size, hcap, fun j hj => ?_⟩
      have e : W'.cell? ⟨b, off + j, none⟩ = W.cell? ⟨b, off + j, none⟩ := by simp [World.cell?, hq]
      rw [e]
      exact hc j hj
    · have e : ys = [] := List.eq_nil_of_length_eq_zero (by omega)
      subst e
      exact Or.inl ⟨rfl, _, _, rfl⟩
theorem blk_drawnT {W W' : World} {g b : Nat} {o : Obj} (h : W.heap[b]? = some o) (gr : W.grownBy W' (some g)) (hb : b ≠ g) : W'.heap[b]? = some o :=
  (gr.block b (Array.getElem?_eq_some_iff.1 h).1 (fun e => hb (Option.some.inj e))).trans h
theorem blk_allocT {W : World} {b : Nat} {o : Obj} (h : W.heap[b]? = some o) (o2 : Obj) : (W.alloc o2).heap[b]? = some o :=
  (Below.heap_alloc _ _ _ (Array.getElem?_eq_some_iff.1 h).1).trans h
theorem nextT (g : Nat) (c : Value) (xs : List Int) (p n : Int) (W : World) (h : Dt W g c xs p) (hp : p ≤ 1000000) (h1 : 1 ≤ n) (h2 : n ≤ 2147483648) :
    Calls Try.prog 9 #[.pointer (some ⟨g, 0, none⟩), .int .i64 n] W fun e w' => ∃ k : Int, e = .returned (.int .i64 k) ∧ 0 ≤ k ∧ k < n ∧ Dt w' g c xs (p + 3) ∧ W.grownBy w' (some g) := by
  obtain ⟨l, s, hd, hs⟩ := h
  refine (nextC g c xs n s W hd (by omega) h1 h2).mono ?_
  rintro e w' ⟨rfl, d, gr⟩
  have b := nextV_bd xs n s h1
  have q := nextS_pos xs n s
  exact ⟨_, rfl, b.1, b.2, ⟨l, _, d, by omega⟩, gr⟩
theorem bytesT (g : Nat) (c : Value) (xs : List Int) (p : Int) (k : Int) (W : World) (h : Dt W g c xs p) (hp : p ≤ 1000000) (h0 : 0 ≤ k) (h1 : k ≤ 1000) :
    Calls Try.prog 12 #[.pointer (some ⟨g, 0, none⟩), .int .i64 k] W fun e w' => ∃ ao cap ys, e = .returned (.slice ao ys.length cap) ∧ Row w' .u8 (.slice ao ys.length cap) ys ∧ (ys.length : Int) = k ∧ Bytes ys ∧ Dt w' g c xs (p + 1000) ∧ W.grownBy w' (some g) := by
  have hgl := h.lt
  obtain ⟨l, s, hd, hs⟩ := h
  obtain ⟨n, rfl⟩ := Int.eq_ofNat_of_zero_le h0
  refine (bytesC g c xs s n W hd (fun b off m cap a e => by have := l b off m cap a e; omega) (by omega) (by omega)).mono ?_
  rintro e w' ⟨r, rfl, o, d, gr⟩
  have q := bysS_pos xs s n
  have R : Row w' .u8 r (bysV xs s n) := by
    have o' : w'.ownsRow W.heap.size 5 1 r (bysV xs s n).length ((bysV xs s n).map (Value.int .u8)) := by rw [bysV_length]; exact o
    exact row_of_owns o'
  obtain ⟨ao, cap, rfl⟩ := R.form
  exact ⟨ao, cap, bysV xs s n, rfl, R, by rw [bysV_length], bysV_bytes xs s n hd.bytes, ⟨l, _, d, by omega⟩, gr⟩
theorem chanceT (g : Nat) (c : Value) (xs : List Int) (p n : Int) (W : World) (h : Dt W g c xs p) (hp : p ≤ 1000000) (h1 : 1 ≤ n) (h2 : n ≤ 2147483648) :
    Calls Try.prog 11 #[.pointer (some ⟨g, 0, none⟩), .int .i64 n] W fun e w' => ∃ k : Bool, e = .returned (.bool k) ∧ Dt w' g c xs (p + 3) ∧ W.grownBy w' (some g) := by
  obtain ⟨l, s, hd, hs⟩ := h
  refine (chanceC g c xs n s W hd (by omega) h1 h2).mono ?_
  rintro e w' ⟨rfl, d, gr⟩
  have q := nextS_pos xs n s
  exact ⟨_, rfl, ⟨l, _, d, by omega⟩, gr⟩
theorem grownT_below {w w' : World} (h : Below w.heap.size w w') (r : Option Nat) : w.grownBy w' r := ⟨h.os, h.tape, h.output, h.size, fun k hk _ => h.block k hk⟩
theorem Dt.kept {W W' : World} {g : Nat} {c : Value} {xs : List Int} {p : Int} (h : Dt W g c xs p) (hb : Below W.heap.size W W') : Dt W' g c xs p := by
  obtain ⟨l, s, hd, hp⟩ := h
  exact ⟨l, s, hd.kept (grownT_below hb none) (by simp) (by intros; simp), hp⟩
theorem dt_new {w : World} {v : Value} {xs : List Int} (hrow : Row w .u8 v xs) (hB : Bytes xs) (hl : xs.length ≤ 1048576) :
    Dt (w.alloc (.cells #[v, .int .i64 0, .int .i64 ((xs.length : Int) % 1000)] 53)) w.heap.size v xs 0 := by
  refine ⟨?_, _, drw_new hrow hB hl, Int.le_refl 0⟩
  intro b off n cap h0 e
  rcases hrow with ⟨rfl, ao, cap', e'⟩ | ⟨b', off', cap', e', hb, _⟩
  · rw [e] at e'; cases e'; omega
  · rw [e] at e'; cases e'; omega

/-- The table of odd times. -/
def oddO : Obj := .cells #[.int .i64 0, .int .i64 1, .int .i64 (-1), .int .i64 1000000000000, .int .i64 1000000000001, .int .i64 9223372036854775807] 3
/-- What is drawn for a token. -/
def TkDr (w' : World) (r : Value) : Prop := ∃ a0 a1 a3 p0 p1 p3 ks ads os, ∃ t : Int, r = .tuple #[.slice a0 (List.length ks) p0, .slice a1 (List.length ads) p1, .int .i64 t, .slice a3 (List.length os) p3] ∧ Row w' .u8 (.slice a0 ks.length p0) ks ∧ Row w' .u8 (.slice a1 ads.length p1) ads ∧ Row w' .u8 (.slice a3 os.length p3) os ∧ Bytes ks ∧ Bytes ads ∧ Bytes os ∧ ks.length ≤ 20 ∧ ads.length ≤ 26 ∧ os.length ≤ 10 ∧ -1 ≤ t ∧ t ≤ 9223372036854775807
end Go.Proofs.Ytdoglkjhmaiknaa
