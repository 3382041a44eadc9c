import Derived.Test.YtjdmknlcjejecaaIDigest
import Derived.Test.YtjdmknlcjejecaaDer
namespace Go.Proofs.Ytjdmknlcjejecaa
open Go.RowKit
set_option linter.unusedVariables false

theorem owns_full {w : World} {base e g n : Nat} {xs : List Int} (h : w.ownsRow base e 1 (.slice (some ⟨g, 0, none⟩) n n) n (u8s xs)) : w.heap[g]? = some (.cells (u8s xs).toArray e (0, 0)) := by
  rcases h.2 with ⟨h1, _⟩ | ⟨g', cap, cur, h1, _, h2, _, _, h3, h4⟩
  · cases h1
  · cases h1
    rw [h2]
    have : cur.toList = u8s xs := by
      rw [← h4, List.take_of_length_le (by simp; omega)]
    rw [← this]
theorem owns_of_full {w : World} {base e g n : Nat} {xs : List Int} (h : w.heap[g]? = some (.cells (u8s xs).toArray e (0, 0))) (hb : base ≤ g) (hn : xs.length = n) (hm : n ≤ maxLen) : w.ownsRow base e 1 (.slice (some ⟨g, 0, none⟩) n n) n (xs.map (Value.int .u8)) := by
  refine ⟨by simp [hn], Or.inr ⟨g, n, _, rfl, hb, h, Nat.le_refl _, hm, by simp [u8s_length, hn], ?_⟩⟩
  show (u8s xs).take (n * 1) = u8s xs
  rw [List.take_of_length_le (by rw [u8s_length]; omega)]

/-- Derive's row behind k blocks. -/
def dOut (ss ls : List Int) (n k : Nat) : List Int := (blk ss ls k).take n ++ List.replicate (n - 16 * k) 0
theorem dOut_length (ss ls : List Int) (n k : Nat) : (dOut ss ls n k).length = n := by
  simp [dOut, blk_length]
  omega
theorem dOut_0 (ss ls : List Int) (n : Nat) : dOut ss ls n 0 = List.replicate n 0 := by simp [dOut, blk]
theorem dOut_step (ss ls : List Int) (n k : Nat) (h : 16 * k < n) : splice (dOut ss ls n k) (16 * k) ((digV ss (ls ++ [(k : Int)])).take (min 16 (n - 16 * k))) = dOut ss ls n (k + 1) := by
  have hb := blk_length ss ls k
  have hd := digV_length ss (ls ++ [(k : Int)])
  have e0 : (blk ss ls k).take n = blk ss ls k := List.take_of_length_le (by omega)
  have e1 : blk ss ls (k + 1) = blk ss ls k ++ digV ss (ls ++ [(k : Int)]) := rfl
  have e2 : (digV ss (ls ++ [(k : Int)])).take (n - 16 * k) = (digV ss (ls ++ [(k : Int)])).take (min 16 (n - 16 * k)) := by
    by_cases hm : n - 16 * k ≤ 16
    · rw [Nat.min_eq_right hm]
    · rw [Nat.min_eq_left (by omega), List.take_of_length_le (by omega), List.take_of_length_le (by omega)]
  unfold splice dOut
  have eR : List.take n (blk ss ls k ++ digV ss (ls ++ [(k : Int)])) = blk ss ls k ++ (digV ss (ls ++ [(k : Int)])).take (n - 16 * k) := by rw [List.take_append, hb, e0]
  rw [e0, e1, eR, e2]
  generalize digV ss (ls ++ [(k : Int)]) = d at hd
  have hl : (d.take (min 16 (n - 16 * k))).length = min 16 (n - 16 * k) := by rw [List.length_take, hd]; omega
  rw [hl, List.take_left' hb, List.append_assoc]
  congr 2
  rw [List.drop_append, hb]
  rw [List.drop_of_length_le (by omega)]
  simp
  omega
theorem dOut_end (ss ls : List Int) (n k : Nat) (h : n ≤ 16 * k) (hk : k ≤ 4) : dOut ss ls n k = drvV ss ls n := by
  unfold dOut drvV
  have := blk_take ss ls n k (4 - k) h
  rw [show k + (4 - k) = 4 by omega] at this
  rw [this, show n - 16 * k = 0 by omega]
  simp

theorem Parts.drew {w : World} {vp : Value} {L : List (List Int)} (h : Parts w vp L) : Parts w.drew vp L := ⟨h.at'⟩
theorem derParts (wr : World) (s : ByteArray) (C k : Nat) (hC : s.size ≤ C) (hC1 : C ≤ maxLen) :
    Parts (((wr.alloc (.cells (bytesRow s C) 5 ((bytesRow s C).size, (bytesRow s C).size + 1))).alloc (.cells #[.int .u8 (k : Int)] 5)).alloc
      (.cells #[.slice (some ⟨wr.heap.size, 0, none⟩) s.size C, .slice (some ⟨wr.heap.size + 1, 0, none⟩) 1 1] 22)).drew (.slice (some ⟨wr.heap.size + 1 + 1, 0, none⟩) 2 2) [lab s, [(k : Int)]] := by
  have h1 : ((wr.alloc (.cells (bytesRow s C) 5 ((bytesRow s C).size, (bytesRow s C).size + 1))).alloc (.cells #[.int .u8 (k : Int)] 5)).heap[wr.heap.size]? = some (.cells (bytesRow s C) 5 ((bytesRow s C).size, (bytesRow s C).size + 1)) := (two_newS wr _ _).1
  have h2 := (two_newS wr (.cells (bytesRow s C) 5 ((bytesRow s C).size, (bytesRow s C).size + 1)) (.cells #[.int .u8 (k : Int)] 5)).2
  have r1 : Row ((wr.alloc (.cells (bytesRow s C) 5 ((bytesRow s C).size, (bytesRow s C).size + 1))).alloc (.cells #[.int .u8 (k : Int)] 5)) .u8 (.slice (some ⟨wr.heap.size, 0, none⟩) s.size C) (lab s) := by
    refine Or.inr ⟨wr.heap.size, 0, C, by rw [lab_length], by simp; omega, by rw [lab_length]; exact ⟨hC, hC1⟩, fun j hj => ?_⟩
    rw [lab_length] at hj
    rw [Nat.zero_add, blkS_cell h1]
    exact lab_at s C j hj
  have r2 : Row ((wr.alloc (.cells (bytesRow s C) 5 ((bytesRow s C).size, (bytesRow s C).size + 1))).alloc (.cells #[.int .u8 (k : Int)] 5)) .u8 (.slice (some ⟨wr.heap.size + 1, 0, none⟩) 1 1) [(k : Int)] := by
    refine Or.inr ⟨wr.heap.size + 1, 0, 1, rfl, by simp, ⟨Nat.le_refl _, by decide⟩, fun j hj => ?_⟩
    obtain rfl : j = 0 := by simp at hj; omega
    rw [blkS_cell h2]
    rfl
  have := (parts2 r1 r2 22).drew
  simp only [World.size_alloc] at this
  exact this

theorem row_full {w : World} {g n e : Nat} {xs : List Int} (h : w.heap[g]? = some (.cells (u8s xs).toArray e (0, 0))) (hn : xs.length = n) (hm : n ≤ maxLen) : Row w .u8 (.slice (some ⟨g, 0, none⟩) n n) xs :=
  row_of_owns (owns_of_full (base := 0) h (Nat.zero_le _) hn hm)

theorem implDer_bad (ao : Option Addr) (m cap : Nat) (s : ByteArray) (n : Int) (w : World) (hm : m ≤ 9223372036854775807) (hs : s.size ≤ 9223372036854775807) (h : ¬ (m = 16 ∧ s.size ≤ 32 ∧ 1 ≤ n ∧ n ≤ 64)) :
    Calls Try.prog 22 #[.slice ao m cap, .string s, .int .i64 n] w fun e w' => ∃ r, e = .returned r ∧ w'.ownsRow w.heap.size 5 1 r 0 (([] : List Int).map (Value.int .u8)) ∧ Below w.heap.size w w' := by
  by_cases a : m = 16
  · subst a
    by_cases b : s.size ≤ 32
    · by_cases c : 1 ≤ n
      · have d : 64 < n := by omega
        clear h
        go_enter Try.func22, Try.ntmps22
        go_wp2
        go_ret
        exact ⟨_, rfl, World.ownsRow_nil _ _ _ _, Below.refl _ _⟩
      · clear h
        go_enter Try.func22, Try.ntmps22
        go_wp2
        go_ret
        exact ⟨_, rfl, World.ownsRow_nil _ _ _ _, Below.refl _ _⟩
    · clear h
      go_enter Try.func22, Try.ntmps22
      go_wp2
      go_ret
      exact ⟨_, rfl, World.ownsRow_nil _ _ _ _, Below.refl _ _⟩
  · have a' : ((m : Int) != 16) = true := by simp; omega
    clear h
    go_enter Try.func22, Try.ntmps22
    go_wp2
    go_ret
    exact ⟨_, rfl, World.ownsRow_nil _ _ _ _, Below.refl _ _⟩

set_option maxRecDepth 20000 in
set_option maxHeartbeats 4000000 in
theorem implDer_ok (b off cap : Nat) (ss : List Int) (s : ByteArray) (n : Nat) (w : World) (hrow : Row w .u8 (.slice (some ⟨b, off, none⟩) 16 cap) ss) (hB : Bytes ss) (hl : ss.length = 16) (hs : s.size ≤ 32) (hn0 : 1 ≤ n) (hn : n ≤ 64) :
    Calls Try.prog 22 #[.slice (some ⟨b, off, none⟩) 16 cap, .string s, .int .i64 (n : Int)] w fun e w' => ∃ r, e = .returned r ∧ w'.ownsRow w.heap.size 5 1 r n ((drvV ss (lab s) n).map (Value.int .u8)) ∧ Below w.heap.size w w' := by
  obtain ⟨i0, hi, hz0, hz1, hz2⟩ := info_parts infoU8
  have HH : Hid _ := And.intro hrow (And.intro hB hl)
  have kc := fun (w : World) => run_bytes_of_string (P := Try.prog) w 9 22 5 s Try.underlying9 Try.underlying22 Try.underlying5
  clear hrow hB hl
  go_enter Try.func22, Try.ntmps22
  go_wp2_with (at_make; refine wpList_make_full _ rfl _ _ 22 rfl w.heap.size 5 i0 (.int .u8 0) 1 Try.underlying22 hi hz0 hz1 .i64 .i64 (n : Int) (n : Int) n rfl rfl rfl rfl (by rw [hz2]; omega) (by unfold maxLen; omega) (Nat.le_refl _) ?_; intro w1 hown hg)
  have H1 : Hid (w1.heap[w.heap.size]? = some (.cells (u8s (dOut ss (lab s) n 0)).toArray 5 (0, 0)) ∧ Below w.heap.size w w1) := by
    refine ⟨?_, (Below.refl _ _).grown hg (Nat.le_refl _) (by intro k hk; cases hk)⟩
    rw [dOut_0]
    exact owns_full (made_zero hown)
  clear hown hg
  go_loopw [32] (fun i wr => ∃ k : Nat, k ≤ 4 ∧ (16 * k < n + 16) ∧ i = .int .i64 (k : Int) ∧ wr.heap[w.heap.size]? = some (.cells (u8s (dOut ss (lab s) n k)).toArray 5 (0, 0)) ∧ Below w.heap.size w wr) (fun i _ => 5 - (intOf i).toNat)
  case atStart => exact ⟨0, by omega, by omega, rfl, H1.out.1, H1.out.2⟩
  case round =>
    obtain ⟨k, hk, hk2, rfl, hblk, hb⟩ := hrel
    have H2 : Hid _ := And.intro hblk hb
    clear hblk hb
    by_cases hlt : 16 * k < n
    · go_wp2_with fail
      go_at_call 19
      have hge := grownCap_ge wr s.size 0 5
      have hle := grownCap_le_maxLen wr s.size 0 5 (by unfold maxLen; omega)
      have BB : Below wr.heap.size wr (((wr.alloc (.cells (bytesRow s (grownCap wr s.size 0 5)) 5 ((bytesRow s (grownCap wr s.size 0 5)).size, (bytesRow s (grownCap wr s.size 0 5)).size + 1))).alloc (.cells #[.int .u8 (k : Int)] 5)).alloc (.cells #[.slice (some ⟨wr.heap.size, 0, none⟩) s.size (grownCap wr s.size 0 5), .slice (some ⟨wr.heap.size + 1, 0, none⟩) 1 1] 22)).drew := by
        have := (((Below.refl wr.heap.size wr).alloc (Nat.le_refl _) (.cells (bytesRow s (grownCap wr s.size 0 5)) 5 ((bytesRow s (grownCap wr s.size 0 5)).size, (bytesRow s (grownCap wr s.size 0 5)).size + 1))).alloc (by simp) (.cells #[.int .u8 (k : Int)] 5)).alloc (by simp; omega) (.cells #[.slice (some ⟨wr.heap.size, 0, none⟩) s.size (grownCap wr s.size 0 5), .slice (some ⟨wr.heap.size + 1, 0, none⟩) 1 1] 22)
        exact ⟨this.os, this.tape, this.output, this.size, this.block⟩
      refine (iparts _ _ ss [lab s, [(k : Int)]] _ (HH.out.1.below (H2.out.2.trans (BB.mono H2.out.2.size))) HH.out.2.1 (by rw [HH.out.2.2]; decide) (derParts wr s _ k hge hle) (bytes_getD2 (lab_bytes s) (by intro x hx; simp at hx; subst hx; omega)) (by simp [lab_length]; omega) (by simp)).mono ?_
      rintro e w2 ⟨rfl, b2⟩
      have ef : [lab s, [(k : Int)]].flatten = lab s ++ [(k : Int)] := by simp
      rw [ef]
      have hz : wr.heap.size ≤ w2.heap.size := Nat.le_trans BB.size b2.size
      have B2 : Hid (Below wr.heap.size wr w2) := BB.trans (b2.mono BB.size)
      have hz0' := H2.out.2.size
      have hzr : w.heap.size < wr.heap.size := (Array.getElem?_eq_some_iff.1 H2.out.1).1
      have hdl := digV_length ss (lab s ++ [(k : Int)])
      have ES : Hid _ := dOut_step ss (lab s) n k hlt
      obtain ⟨D, eD⟩ : ∃ D, D = digV ss (lab s ++ [(k : Int)]) := ⟨_, rfl⟩
      rw [← eD] at hdl ES ⊢
      have DL : Hid _ := And.intro hdl eD
      clear b2 BB ef hdl eD hge hle
      go_wp2_with (refine wpList_store_at rfl 40 (.tmp 9) (.tmp 42) rfl w2.heap.size _ rfl rfl 40 _ (MapKept.heap_alloc w2 _).1 (infoBs _ DL.out.1) (by simp [u8s_length, DL.out.1]) (u8s_all _) ?_; intro w3 h3 n3)
      have o3 : w3.heap[w.heap.size]? = some (.cells (u8s (dOut ss (lab s) n k)).toArray 5 (0, 0)) := by
        rw [n3.block _ (by simp; omega), Below.heap_alloc w2 _ _ (by omega), B2.out.block _ hzr]
        exact H2.out.1
      have B3 : Hid (Below w.heap.size w w3) := ((H2.out.2.trans (B2.out.mono H2.out.2.size)).alloc (by omega) _).trans (n3.below (by omega))
      have H3 : Hid _ := And.intro o3 (row_full h3 DL.out.1 (by decide))
      have hm : min 16 (n - 16 * k) = Nat.min 16 (n - 16 * k) := rfl
      clear n3 o3 h3
      have ew : IntKind.i64.wrap ((k : Int) * 16) = 16 * (k : Int) := by rw [IntKind.wrap_i64]; omega
      have hin0 : 0 ≤ 16 * (k : Int) := by omega
      have hin1 : 16 * (k : Int) ≤ (n : Int) := by omega
      have hto : (16 * (k : Int)).toNat = 16 * k := by omega
      have hne : ¬ n = 16 * k := by omega
      go_wp2_with fail
      go_region_law (refine step_copy_at rfl (.tmp 46) (.tmp 47) 22 22 rfl 5 Try.underlying22 infoU8s w.heap.size (16 * k) (n - 16 * k) (n - 16 * k) _ rfl rfl D (H3.out.2.drewN 1) (by rw [DL.out.1]; decide) (dOut ss (lab s) n k) 5 H3.out.1 (min 16 (n - 16 * k)) (by rw [DL.out.1]) (by rw [dOut_length]; omega) ?_; intro w4 h4 n4)
      rw [ES.out] at h4
      have H4 : Hid _ := And.intro h4 (B3.out.trans (Only.below (g := w.heap.size) (w := w3) ⟨n4.os, n4.tape, n4.output, n4.size, n4.block⟩ (Nat.le_refl _)))
      clear h4 n4
      go_wp2
      go_roundw
      case rel => exact ⟨k + 1, by omega, by omega, by go_num, H4.out.1, H4.out.2⟩
      case measure => simp [intOf]; omega
    · go_wp2
      go_ret
      have h := H2.out.1
      rw [dOut_end ss (lab s) n k (by omega) hk] at h
      exact ⟨_, rfl, owns_of_full h (Nat.le_refl _) (drvV_length _ _ _ hn) (by unfold maxLen; omega), H2.out.2⟩

theorem implDerive (v : Value) (ss : List Int) (s : ByteArray) (n : Int) (w : World) (hrow : Row w .u8 v ss) (hB : Bytes ss) (hl : ss.length ≤ 9223372036854775807) (hs : s.size ≤ 9223372036854775807) :
    Calls Try.prog 22 #[v, .string s, .int .i64 n] w fun e w' => ∃ r, e = .returned r ∧ w'.ownsRow w.heap.size 5 1 r (derV ss s n).length ((derV ss s n).map (Value.int .u8)) ∧ Below w.heap.size w w' := by
  by_cases h : ss.length = 16 ∧ s.size ≤ 32 ∧ 1 ≤ n ∧ n ≤ 64
  · obtain ⟨b, off, cap, rfl, hb⟩ := hrow.at (by omega)
    have e : derV ss s n = drvV ss (lab s) n.toNat := if_pos h
    obtain ⟨m, rfl⟩ : ∃ m : Nat, n = m := ⟨n.toNat, by omega⟩
    rw [e, drvV_length _ _ _ (by omega)]
    rw [h.1] at hrow ⊢
    exact implDer_ok b off cap ss s m w hrow hB h.1 h.2.1 (by omega) (by omega)
  · obtain ⟨ao, cap, rfl⟩ := hrow.form
    have e : derV ss s n = [] := if_neg h
    rw [e]
    exact implDer_bad ao _ cap s n w hl hs h
end Go.Proofs.Ytjdmknlcjejecaa
