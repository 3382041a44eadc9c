import Derived.Test.YthokfbgpoffafaaGreatDoorIDigest
import Derived.Test.YthokfbgpoffafaaGreatDoorDer
namespace Go.Proofs.YthokfbgpoffafaaGreatDoor
open Go.RowKit
set_option linter.unusedVariables false

theorem owns_full {w : World} {base e g n : Nat} {xs : List Int} (h : w.ownsRow base e 1 (.slice (some ⟨g, 0, none⟩) n n) n (u8s xs)) : w.heap[g]? = some (.cells (u8s xs).toArray e (0, 0)) := by
  rcases h.2 with ⟨h1, _⟩ | ⟨g', cap, cur, h1, _, h2, _, _, h3, h4⟩
  · cases h1
  · cases h1
    rw [h2]
    have : cur.toList = u8s xs := by
      rw [← h4, List.take_of_length_le (by simp; omega)]
    rw [← this]
theorem owns_of_full {w : World} {base e g n : Nat} {xs : List Int} (h : w.heap[g]? = some (.cells (u8s xs).toArray e (0, 0))) (hb : base ≤ g) (hn : xs.length = n) (hm : n ≤ maxLen) : w.ownsRow base e 1 (.slice (some ⟨g, 0, none⟩) n n) n (xs.map (Value.int .u8)) := by
  refine ⟨by simp [hn], Or.inr ⟨g, n, _, rfl, hb, h, Nat.le_refl _, hm, by simp [u8s_length, hn], ?_⟩⟩
  show (u8s xs).take (n * 1) = u8s xs
  rw [List.take_of_length_le (by rw [u8s_length]; omega)]

/-- Derive's row behind k blocks. -/
def dOut (ss ls : List Int) (n k : Nat) : List Int := (blk ss ls k).take n ++ List.replicate (n - 16 * k) 0
theorem dOut_length (ss ls : List Int) (n k : Nat) : (dOut ss ls n k).length = n := by
  simp [dOut, blk_length]
  omega
theorem dOut_0 (ss ls : List Int) (n : Nat) : dOut ss ls n 0 = List.replicate n 0 := by simp [dOut, blk]
theorem dOut_step (ss ls : List Int) (n k : Nat) (h : 16 * k < n) : splice (dOut ss ls n k) (16 * k) ((digV ss (ls ++ [(k : Int)])).take (min 16 (n - 16 * k))) = dOut ss ls n (k + 1) := by
  have hb := blk_length ss ls k
  have hd := digV_length ss (ls ++ [(k : Int)])
  have e0 : (blk ss ls k).take n = blk ss ls k := List.take_of_length_le (by omega)
  have e1 : blk ss ls (k + 1) = blk ss ls k ++ digV ss (ls ++ [(k : Int)]) := rfl
  have e2 : (digV ss (ls ++ [(k : Int)])).take (n - 16 * k) = (digV ss (ls ++ [(k : Int)])).take (min 16 (n - 16 * k)) := by
    by_cases hm : n - 16 * k ≤ 16
    · rw [Nat.min_eq_right hm]
    · rw [Nat.min_eq_left (by omega), List.take_of_length_le (by omega), List.take_of_length_le (by omega)]
  unfold splice dOut
  have eR : List.take n (blk ss ls k ++ digV ss (ls ++ [(k : Int)])) = blk ss ls k ++ (digV ss (ls ++ [(k : Int)])).take (n - 16 * k) := by rw [List.take_append, hb, e0]
  rw [e0, e1, eR, e2]
  generalize digV ss (ls ++ [(k : Int)]) = d at hd
  have hl : (d.take (min 16 (n - 16 * k))).length = min 16 (n - 16 * k) := by rw [List.length_take, hd]; omega
  rw [hl, List.take_left' hb, List.append_assoc]
  congr 2
  rw [List.drop_append, hb]
  rw [List.drop_of_length_le (by omega)]
  simp
  omega
theorem dOut_end (ss ls : List Int) (n k : Nat) (h : n ≤ 16 * k) (hk : k ≤ 4) : dOut ss ls n k = drvV ss ls n := by
  unfold dOut drvV
  have := blk_take ss ls n k (4 - k) h
  rw [show k + (4 - k) = 4 by omega] at this
  rw [this, show n - 16 * k = 0 by omega]
  simp

theorem Parts.drew {w : World} {vp : Value} {L : List (List Int)} (h : Parts w vp L) : Parts w.drew vp L := ⟨h.at'⟩
theorem derParts (wr : World) (s : ByteArray) (C k : Nat) (hC : s.size ≤ C) (hC1 : C ≤ maxLen) :
    Parts (((wr.alloc (.cells (bytesRow s C) 5 ((bytesRow s C).size, (bytesRow s C).size + 1))).alloc (.cells #[.int .u8 (k : Int)] 5)).alloc
      (.cells #[.slice (some ⟨wr.heap.size, 0, none⟩) s.size C, .slice (some ⟨wr.heap.size + 1, 0, none⟩) 1 1] 22)).drew (.slice (some ⟨wr.heap.size + 1 + 1, 0, none⟩) 2 2) [lab s, [(k : Int)]] := by
  have h1 : ((wr.alloc (.cells (bytesRow s C) 5 ((bytesRow s C).size, (bytesRow s C).size + 1))).alloc (.cells #[.int .u8 (k : Int)] 5)).heap[wr.heap.size]? = some (.cells (bytesRow s C) 5 ((bytesRow s C).size, (bytesRow s C).size + 1)) := (two_newS wr _ _).1
  have h2 := (two_newS wr (.cells (bytesRow s C) 5 ((bytesRow s C).size, (bytesRow s C).size + 1)) (.cells #[.int .u8 (k : Int)] 5)).2
  have r1 : Row ((wr.alloc (.cells (bytesRow s C) 5 ((bytesRow s C).size, (bytesRow s C).size + 1))).alloc (.cells #[.int .u8 (k : Int)] 5)) .u8 (.slice (some ⟨wr.heap.size, 0, none⟩) s.size C) (lab s) := by
    refine Or.inr ⟨wr.heap.size, 0, C, by rw [lab_length], by simp; omega, by rw [lab_length]; exact ⟨hC, hC1⟩, fun j hj => ?_⟩
    rw [lab_length] at hj
    rw [Nat.zero_add, blkS_cell h1]
    exact lab_at s C j hj
  have r2 : Row ((wr.alloc (.cells (bytesRow s C) 5 ((bytesRow s C).size, (bytesRow s C).size + 1))).alloc (.cells #[.int .u8 (k : Int)] 5)) .u8 (.slice (some ⟨wr.heap.size + 1, 0, none⟩) 1 1) [(k : Int)] := by
    refine Or.inr ⟨wr.heap.size + 1, 0, 1, rfl, by simp, ⟨Nat.le_refl _, by decide⟩, fun j hj => ?_⟩
    obtain rfl : j = 0 := by simp at hj; omega
    rw [blkS_cell h2]
    rfl
  have := (parts2 r1 r2 22).drew
  simp only [World.size_alloc] at this
  exact this

theorem row_full {w : World} {g n e : Nat} {xs : List Int} (h : w.heap[g]? = some (.cells (u8s xs).toArray e (0, 0))) (hn : xs.length = n) (hm : n ≤ maxLen) : Row w .u8 (.slice (some ⟨g, 0, none⟩) n n) xs :=
  row_of_owns (owns_of_full (base := 0) h (Nat.zero_le _) hn hm)

end Go.Proofs.YthokfbgpoffafaaGreatDoor
