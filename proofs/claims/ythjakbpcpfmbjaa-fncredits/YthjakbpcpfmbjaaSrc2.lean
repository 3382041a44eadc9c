import Derived.Test.YthjakbpcpfmbjaaSrc
namespace Go.Proofs.Ythjakbpcpfmbjaa
open Go.RowKit
set_option linter.unusedVariables false

theorem blk_setCell {w : World} {g : Nat} {c : Array Value} {t : TypeId} {fr : Nat × Nat} (h : w.heap[g]? = some (.cells c t fr)) (o : Nat) (u : Value) : (w.setCell ⟨g, o, none⟩ u).heap[g]? = some (.cells (c.setIfInBounds o u) t fr) := by
  simp only [World.setCell, Array.getElem?_modify, if_true]
  rw [h]
  rfl
theorem blk_cell {w : World} {g : Nat} {c : Array Value} {t : TypeId} {fr : Nat × Nat} (h : w.heap[g]? = some (.cells c t fr)) (o : Nat) : w.cell? ⟨g, o, none⟩ = c[o]? := by
  simp [World.cell?, h]
theorem blk_free {w : World} {g : Nat} {c : Array Value} {t : TypeId} (h : w.heap[g]? = some (.cells c t (0, 0))) (o : Nat) : w.frozen? ⟨g, o, none⟩ = false := by
  simp [World.frozen?, h]

theorem grown_trans {a b c : World} {r : Option Nat} (h : a.grownBy b r) (k : b.grownBy c r) : a.grownBy c r :=
  ⟨k.os.trans h.os, k.tape.trans h.tape, k.output.trans h.output, Nat.le_trans h.size k.size, fun i hi hr => (k.block i (Nat.lt_of_lt_of_le hi h.size) hr).trans (h.block i hi hr)⟩
theorem grown_refl (a : World) (r : Option Nat) : a.grownBy a r := ⟨rfl, rfl, rfl, Nat.le_refl _, fun _ _ _ => rfl⟩
theorem Like.grown {w w' : World} (h : Like w w') (r : Option Nat) : w.grownBy w' r := ⟨h.os, h.tape, h.output, by rw [h.heap]; exact Nat.le_refl _, fun k _ _ => by rw [h.heap]⟩
theorem grown_setCell (w : World) (g o : Nat) (u : Value) : w.grownBy (w.setCell ⟨g, o, none⟩ u) (some g) :=
  ⟨rfl, rfl, rfl, by simp [World.setCell], fun k _ hk => Below.heap_setCell _ _ _ _ (fun e => hk (by rw [e]))⟩
theorem Row.grown {w w' : World} {k : IntKind} {v : Value} {xs : List Int} {r : Option Nat} (h : Row w k v xs) (hg : w.grownBy w' r) (ha : ∀ b off n cap, 0 < n → v = .slice (some ⟨b, off, none⟩) n cap → some b ≠ r) : Row w' k v xs := by
  rcases h with h | ⟨b, off, cap, e, hlt, hcap, hc⟩
  · exact Or.inl h
  · by_cases h0 : xs.length = 0
    · exact Or.inl ⟨List.eq_nil_of_length_eq_zero h0, some ⟨b, off, none⟩, cap, by rw [e, h0]⟩
    · refine Or.inr ⟨b, off, cap, e, Nat.lt_of_lt_of_le hlt hg.size, hcap, fun j hj => ?_⟩
      have hb := hg.block b hlt (ha b off _ cap (by omega) e)
      rw [← hc j hj]
      exact World.cell?_of_block (w := w) hb

/-- The source stands in block g: its code reads as xs, its state is s. -/
structure Drw (w : World) (g : Nat) (v : Value) (xs : List Int) (s : St) : Prop where
  blk : w.heap[g]? = some (.cells #[v, .int .i64 s.pos, .int .i64 s.seed] 61 (0, 0))
  row : Row w .u8 v xs
  apart : ∀ b off n cap, 0 < n → v = .slice (some ⟨b, off, none⟩) n cap → b ≠ g
  bytes : Bytes xs
  len : xs.length ≤ 1048576
  p0 : 0 ≤ s.pos
  s0 : 0 ≤ s.seed
  s1 : s.seed < 2147483648

theorem Drw.kept {w w' : World} {g : Nat} {v : Value} {xs : List Int} {s : St} {r : Option Nat} (h : Drw w g v xs s) (hg : w.grownBy w' r) (h1 : some g ≠ r) (h2 : ∀ b off n cap, 0 < n → v = .slice (some ⟨b, off, none⟩) n cap → some b ≠ r) : Drw w' g v xs s :=
  ⟨(hg.block g (Array.getElem?_eq_some_iff.1 h.blk).1 h1).trans h.blk, h.row.grown hg h2, h.apart, h.bytes, h.len, h.p0, h.s0, h.s1⟩

theorem Drw.form {w : World} {g : Nat} {v : Value} {xs : List Int} {s : St} (h : Drw w g v xs s) :
    w.cell? ⟨g, 0, none⟩ = some v ∧ w.cell? ⟨g, 1, none⟩ = some (.int .i64 s.pos) ∧ w.cell? ⟨g, 2, none⟩ = some (.int .i64 s.seed) ∧ w.frozen? ⟨g, 1, none⟩ = false ∧ w.frozen? ⟨g, 2, none⟩ = false :=
  ⟨by rw [blk_cell h.blk]; rfl, by rw [blk_cell h.blk]; rfl, by rw [blk_cell h.blk]; rfl, blk_free h.blk 1, blk_free h.blk 2⟩

theorem bytV_bd (xs : List Int) (s : St) (hB : Bytes xs) : 0 ≤ bytV xs s ∧ bytV xs s < 256 := by
  unfold bytV
  split
  · exact hB.at _
  · split
    · decide
    · omega
theorem bytS_bd (xs : List Int) (s : St) (h0 : 0 ≤ s.seed) (h1 : s.seed < 2147483648) : 0 ≤ (bytS xs s).seed ∧ (bytS xs s).seed < 2147483648 := by
  unfold bytS
  simp only
  split
  · omega
  · split
    · exact ⟨h0, h1⟩
    · omega
theorem bytS_pos (xs : List Int) (s : St) : (bytS xs s).pos = s.pos + 1 := rfl

theorem drw_store {w w' : World} {g : Nat} {v : Value} {xs : List Int} {s : St} (h : Drw w g v xs s) (p sd : Int) (hp : 0 ≤ p) (h0 : 0 ≤ sd) (h1 : sd < 2147483648)
    (hl : Like ((w.setCell ⟨g, 1, none⟩ (.int .i64 p)).setCell ⟨g, 2, none⟩ (.int .i64 sd)) w') : Drw w' g v xs ⟨p, sd⟩ ∧ w.grownBy w' (some g) := by
  have hg : w.grownBy w' (some g) := grown_trans (grown_trans (grown_setCell w g 1 _) (grown_setCell _ g 2 _)) (hl.grown _)
  refine ⟨⟨?_, h.row.grown hg (fun b off n cap h0 e => fun e' => h.apart b off n cap h0 e (Option.some.inj e')), h.apart, h.bytes, h.len, hp, h0, h1⟩, hg⟩
  rw [hl.heap, blk_setCell (blk_setCell h.blk 1 _) 2 _]
  rfl
theorem drw_store1 {w w' : World} {g : Nat} {v : Value} {xs : List Int} {s : St} (h : Drw w g v xs s) (p : Int) (hp : 0 ≤ p)
    (hl : Like (w.setCell ⟨g, 1, none⟩ (.int .i64 p)) w') : Drw w' g v xs ⟨p, s.seed⟩ ∧ w.grownBy w' (some g) := by
  have hg : w.grownBy w' (some g) := grown_trans (grown_setCell w g 1 _) (hl.grown _)
  refine ⟨⟨?_, h.row.grown hg (fun b off n cap h0 e => fun e' => h.apart b off n cap h0 e (Option.some.inj e')), h.apart, h.bytes, h.len, hp, h.s0, h.s1⟩, hg⟩
  rw [hl.heap, blk_setCell h.blk 1 _]
  rfl

theorem byteC (g : Nat) (v : Value) (xs : List Int) (s : St) (w : World) (h : Drw w g v xs s) (hp : s.pos ≤ 1099511627776) :
    Calls Try.prog 26 #[.pointer (some ⟨g, 0, none⟩)] w fun e w' => e = .returned (.int .i64 (bytV xs s)) ∧ Drw w' g v xs (bytS xs s) ∧ w.grownBy w' (some g) := by
  obtain ⟨c0, c1, c2, f1, f2⟩ := h.form
  have hB := bytS_bd xs s h.s0 h.s1
  have h0 := h.p0
  by_cases hin : s.pos + 1 ≤ xs.length
  · obtain ⟨a, ea⟩ := Int.eq_ofNat_of_zero_le h.p0
    have hn : a < xs.length := by omega
    obtain ⟨b, off, cap, rfl, hb, hc⟩ := h.row.at (by omega)
    have hx := h.bytes.at a
    have e1 : bytV xs s = xs.getD a 0 := by unfold bytV; rw [if_pos hin, ea]; rfl
    have e2 : bytS xs s = ⟨(a : Int) + 1, (s.seed * 31 + xs.getD a 0 + 7) % 2147483648⟩ := by unfold bytS; rw [if_pos hin, ea]; rfl
    rw [e1, e2]
    rw [ea] at c1
    refine (byte_in g b off xs.length cap a s.seed (xs.getD a 0) w h.len hn h.s0 h.s1 hx.1 hx.2 c0 c1 c2 f1 f2 (h.apart _ _ _ _ (by omega) rfl) (hc a hn)).mono ?_
    rintro e w' ⟨rfl, hl⟩
    exact ⟨rfl, drw_store h _ _ (by omega) (by omega) (by omega) hl⟩
  · obtain ⟨ao, cap, hv⟩ := h.row.form
    rw [hv] at c0
    by_cases hlim : 4000 + 4 * (xs.length : Int) < s.pos + 1
    · have e1 : bytV xs s = 0 := by unfold bytV; rw [if_neg hin, if_pos hlim]
      have e2 : bytS xs s = ⟨s.pos + 1, s.seed⟩ := by unfold bytS; rw [if_neg hin, if_pos hlim]
      rw [e1, e2]
      refine (byte_end g xs.length cap ao s.pos s.seed w h.len h.p0 hp hlim c0 c1 f1).mono ?_
      rintro e w' ⟨rfl, hl⟩
      exact ⟨rfl, drw_store1 h _ (by omega) hl⟩
    · have e1 : bytV xs s = (s.seed * 1103515245 + 12345) % 2147483648 / 65536 % 256 := by unfold bytV; rw [if_neg hin, if_neg hlim]
      have e2 : bytS xs s = ⟨s.pos + 1, (s.seed * 1103515245 + 12345) % 2147483648⟩ := by unfold bytS; rw [if_neg hin, if_neg hlim]
      rw [e1, e2]
      refine (byte_out g xs.length cap ao s.pos s.seed w h.len h.p0 (by omega) hp h.s0 h.s1 (by omega) c0 c1 c2 f1 f2).mono ?_
      rintro e w' ⟨rfl, hl⟩
      exact ⟨rfl, drw_store h _ _ (by omega) (by omega) (by omega) hl⟩

/-- One of 0 to n - 1. -/
def nextV (xs : List Int) (n : Int) (s : St) : Int :=
  if n ≤ 1 then 0 else if n ≤ 256 then bytV xs s % n
  else (bytV xs s * 65536 + bytV xs (bytS xs s) * 256 + bytV xs (bytS xs (bytS xs s))) % n
def nextS (xs : List Int) (n : Int) (s : St) : St :=
  if n ≤ 1 then s else if n ≤ 256 then bytS xs s else bytS xs (bytS xs (bytS xs s))
theorem nextV_bd (xs : List Int) (n : Int) (s : St) (hn : 1 ≤ n) : 0 ≤ nextV xs n s ∧ nextV xs n s < n := by
  unfold nextV
  split
  · omega
  · split
    · exact ⟨Int.emod_nonneg _ (by omega), Int.emod_lt_of_pos _ (by omega)⟩
    · exact ⟨Int.emod_nonneg _ (by omega), Int.emod_lt_of_pos _ (by omega)⟩
theorem nextS_pos (xs : List Int) (n : Int) (s : St) : s.pos ≤ (nextS xs n s).pos ∧ (nextS xs n s).pos ≤ s.pos + 3 := by
  unfold nextS
  split
  · omega
  · split
    · simp only [bytS_pos]; omega
    · simp only [bytS_pos]; omega

set_option maxHeartbeats 400000 in
theorem nextC (g : Nat) (v : Value) (xs : List Int) (n : Int) (s : St) (w : World) (h : Drw w g v xs s) (hp : s.pos ≤ 1099511627000) (hn0 : 1 ≤ n) (hn1 : n ≤ 2147483648) :
    Calls Try.prog 13 #[.pointer (some ⟨g, 0, none⟩), .int .i64 n] w fun e w' => e = .returned (.int .i64 (nextV xs n s)) ∧ Drw w' g v xs (nextS xs n s) ∧ w.grownBy w' (some g) := by
  by_cases h1 : n ≤ 1
  · have e1 : nextV xs n s = 0 := by unfold nextV; rw [if_pos h1]
    have e2 : nextS xs n s = s := by unfold nextS; rw [if_pos h1]
    rw [e1, e2]
    have HD : Hid (Drw w g v xs s) := h
    clear h e1 e2
    go_enter Try.func13, Try.ntmps13
    go_wp2
    go_ret
    exact ⟨rfl, HD.out, grown_refl _ _⟩
  · have B1 := byteC g v xs s w h (by omega)
    have x1 := bytV_bd xs s h.bytes
    by_cases h2 : n ≤ 256
    · have e1 : nextV xs n s = bytV xs s % n := by unfold nextV; rw [if_neg h1, if_pos h2]
      have e2 : nextS xs n s = bytS xs s := by unfold nextS; rw [if_neg h1, if_pos h2]
      rw [e1, e2]
      generalize bytV xs s = x at B1 x1
      clear h e1 e2
      go_enter Try.func13, Try.ntmps13
      go_wp2_with (go_at_call 26; refine B1.mono ?_; rintro e w1 ⟨rfl, hd1, hg1⟩)
      go_ret
      exact ⟨rfl, hd1, hg1⟩
    · have e1 : nextV xs n s = (bytV xs s * 65536 + bytV xs (bytS xs s) * 256 + bytV xs (bytS xs (bytS xs s))) % n := by unfold nextV; rw [if_neg h1, if_neg h2]
      have e2 : nextS xs n s = bytS xs (bytS xs (bytS xs s)) := by unfold nextS; rw [if_neg h1, if_neg h2]
      rw [e1, e2]
      have x2 := bytV_bd xs (bytS xs s) h.bytes
      have x3 := bytV_bd xs (bytS xs (bytS xs s)) h.bytes
      have B2 : ∀ w, Drw w g v xs (bytS xs s) → _ := fun w h => byteC g v xs (bytS xs s) w h (by rw [bytS_pos]; omega)
      have B3 : ∀ w, Drw w g v xs (bytS xs (bytS xs s)) → _ := fun w h => byteC g v xs (bytS xs (bytS xs s)) w h (by rw [bytS_pos, bytS_pos]; omega)
      generalize bytV xs s = y1 at B1 x1
      generalize bytV xs (bytS xs s) = y2 at B2 x2
      generalize bytV xs (bytS xs (bytS xs s)) = y3 at B3 x3
      clear h e1 e2
      go_enter Try.func13, Try.ntmps13
      go_wp2_with fail
      go_at_call 26
      refine B1.mono ?_
      rintro e w1 ⟨rfl, hd1, hg1⟩
      go_wp2_with fail
      go_at_call 26
      refine (B2 _ hd1).mono ?_
      rintro e w2 ⟨rfl, hd2, hg2⟩
      go_wp2_with fail
      go_at_call 26
      refine (B3 _ hd2).mono ?_
      rintro e w3 ⟨rfl, hd3, hg3⟩
      go_wp2
      go_ret
      exact ⟨rfl, hd3, grown_trans (grown_trans hg1 hg2) hg3⟩
end Go.Proofs.Ythjakbpcpfmbjaa
