import Derived.Test.YtbbiinbjgognjaaDoorSrP
namespace Go.Proofs.YtbbiinbjgognjaaDoor
open Go.RowKit
set_option linter.unusedVariables false

set_option maxRecDepth 20000 in
set_option maxHeartbeats 4000000 in
theorem peekS_none (ao : Option Addr) (n cap m : Nat) (xs : List Int) (w : World) (hlen : xs.length = n) (h0 : n < 1) (hm : m ≤ 8) :
    Calls Tryd.prog 27 #[.slice ao n cap, .int .i64 m] w fun e w' => PkPost xs m w e w' := by
  have P0 := ps_new w (.slice ao n cap)
  have hf := fixedS_no (w.heap.size + 1 + 1) ao n cap 0 1 false _ P0.rd ⟨by omega, by omega⟩ (by omega) (Or.inr (by omega))
  have e : pk xs m = .error 2 := by unfold pk; rw [if_neg (by omega), if_neg (by omega), if_pos (by omega)]
  have HE : Hid _ := And.intro e P0
  clear e P0 hlen h0
  go_enter Tryd.func27, Tryd.ntmps27
  go_wp2_with fail
  go_at_call 36
  refine hf.mono ?_
  rintro e w1 ⟨rfl, r1, c1⟩
  have P1 := HE.out.2.next r1 c1
  have d2 := P1.rd.c2
  obtain ⟨zc0, zc1, zc2, zc3, zc4, zc5, zc6, zc7⟩ := hdB_cells P1.r0
  obtain ⟨zf0, zf1, zf2, zf3, zf4, zf5, zf6, zf7⟩ := hdB_free P1.r0
  obtain ⟨zn0, zn1, zn2, zn3, zn4, zn5, zn6, zn7⟩ := hdB_cells P1.r1
  have HP : Hid _ := And.intro P1 True.intro
  clear r1 c1 P1
  go_wp2_with fail
  refine bodyPost_ret (v := .tuple #[.agg #[.int .i64 0, .int .i64 0, .slice none 0 0, .slice none 0 0, .slice none 0 0, .int .i64 0, .int .i64 0, .int .i64 0], .int .i64 0, .int .i64 2]) ?_ rfl ?_
  · exact results_row_tmp2 (t := 24) rfl _ _ w.heap.size _ (fr := (0, 0)) _ _ _ rfl rfl rfl HP.out.1.zend.2 Tryd.underlying24 rfl infoHd
  · exact ⟨HP.out.1.zend.1, Or.inl ⟨2, HE.out.1, rfl⟩⟩
set_option maxRecDepth 20000 in
set_option maxHeartbeats 4000000 in
theorem peekS_low (b off n cap m : Nat) (xs : List Int) (w : World) (hl : Lies w b off n cap xs) (hB : Bytes xs) (hn : n ≤ 65536) (h1 : 1 ≤ n) (hm : m ≤ 8) (hF : vals (sub xs 0 1) < 64) :
    Calls Tryd.prog 27 #[.slice (some ⟨b, off, none⟩) n cap, .int .i64 m] w fun e w' => PkPost xs m w e w' := by
  have hlen := hl.len
  have P0 := ps_new w (.slice (some ⟨b, off, none⟩) n cap)
  have hbg : b ≠ w.heap.size + 1 + 1 := by have := hl.lt; omega
  have hf := fixedS_ok (w.heap.size + 1 + 1) b off n cap 0 1 xs _ P0.rd (hl.below P0.bel) hB hbg hn (by omega) (by decide) (by decide)
  have e : pk xs m = .error 3 := by unfold pk; rw [if_neg (by omega), if_neg (by omega), if_neg (by omega), if_pos hF]
  have d1 : decide (vals (sub xs 0 1) < 64) = true := decide_eq_true hF
  generalize vals (sub xs 0 1) = f at hf d1
  have HE : Hid _ := And.intro e P0
  clear e P0 hlen hF hl hB hbg
  go_enter Tryd.func27, Tryd.ntmps27
  go_wp2_with fail
  go_at_call 36
  refine hf.mono ?_
  rintro e w1 ⟨rfl, r1, c1⟩
  have P1 := HE.out.2.next r1 c1
  have d2 := P1.rd.c2
  obtain ⟨zc0, zc1, zc2, zc3, zc4, zc5, zc6, zc7⟩ := hdB_cells P1.r0
  obtain ⟨zf0, zf1, zf2, zf3, zf4, zf5, zf6, zf7⟩ := hdB_free P1.r0
  obtain ⟨zn0, zn1, zn2, zn3, zn4, zn5, zn6, zn7⟩ := hdB_cells P1.r1
  have HP : Hid _ := And.intro P1 True.intro
  clear r1 c1 P1
  go_wp2_with fail
  refine bodyPost_ret (v := .tuple #[.agg #[.int .i64 0, .int .i64 0, .slice none 0 0, .slice none 0 0, .slice none 0 0, .int .i64 0, .int .i64 0, .int .i64 0], .int .i64 0, .int .i64 3]) ?_ rfl ?_
  · exact results_row_tmp2 (t := 24) rfl _ _ w.heap.size _ (fr := (0, 0)) _ _ _ rfl rfl rfl HP.out.1.zend.2 Tryd.underlying24 rfl infoHd
  · exact ⟨HP.out.1.zend.1, Or.inl ⟨3, HE.out.1, rfl⟩⟩
set_option maxRecDepth 20000 in
set_option maxHeartbeats 4000000 in
theorem peekS_sa (b off n cap m : Nat) (xs : List Int) (w : World) (hl : Lies w b off n cap xs) (hB : Bytes xs) (hn : n ≤ 65536) (h1 : 1 ≤ n) (hm : m ≤ 8) (hF : ¬ vals (sub xs 0 1) < 64) (hF2 : vals (sub xs 0 1) < 128) (hs : n < 1 + m) :
    Calls Tryd.prog 27 #[.slice (some ⟨b, off, none⟩) n cap, .int .i64 m] w fun e w' => PkPost xs m w e w' := by
  have hlen := hl.len
  have P0 := ps_new w (.slice (some ⟨b, off, none⟩) n cap)
  have hbg : b ≠ w.heap.size + 1 + 1 := by have := hl.lt; omega
  have hf := fixedS_ok (w.heap.size + 1 + 1) b off n cap 0 1 xs _ P0.rd (hl.below P0.bel) hB hbg hn (by omega) (by decide) (by decide)
  have d1 : decide (vals (sub xs 0 1) < 64) = false := decide_eq_false hF
  have d1b : decide (vals (sub xs 0 1) < 128) = true := decide_eq_true hF2
  have e : pk xs m = .error 2 := by unfold pk; rw [if_neg (by omega), if_neg (by omega), if_neg (by omega), if_neg (by omega), if_pos hF2]; unfold pkShP; rw [Int.toNat_natCast]; unfold pkSho; rw [if_pos (by omega)]
  generalize vals (sub xs 0 1) = f at hf d1 d1b
  have HE : Hid _ := And.intro e (And.intro P0 (And.intro hn (And.intro h1 hs)))
  clear e P0 hlen hF hF2 hl hB hbg hs hn h1
  go_enter Tryd.func27, Tryd.ntmps27
  go_wp2_with fail
  go_at_call 36
  refine hf.mono ?_
  rintro e w1 ⟨rfl, r1, c1⟩
  have P1 := HE.out.2.1.next r1 c1
  have d2 := P1.rd.c2
  have ht := takeS_no (w.heap.size + 1 + 1) (some ⟨b, off, none⟩) n cap ((0 + 1 : Nat) : Int) m false w1 P1.rd ⟨by omega, by have := HE.out.2.2.2.1; omega⟩ (by have := HE.out.2.2.1; omega) (Or.inr (by have := HE.out.2.2.2.2; omega))
  have HP : Hid _ := And.intro P1 True.intro
  clear r1 c1 P1
  go_wp2_with fail
  go_at_call 37
  refine ht.mono ?_
  rintro e w2 ⟨q, rfl, hq, o2, r2, c2⟩
  have P2 := HP.out.1.next r2 c2
  have d3 := P2.rd.c2
  obtain ⟨zc0, zc1, zc2, zc3, zc4, zc5, zc6, zc7⟩ := hdB_cells P2.r0
  obtain ⟨zf0, zf1, zf2, zf3, zf4, zf5, zf6, zf7⟩ := hdB_free P2.r0
  obtain ⟨zn0, zn1, zn2, zn3, zn4, zn5, zn6, zn7⟩ := hdB_cells P2.r1
  have HQ : Hid _ := And.intro P2 True.intro
  clear r2 c2 P2 o2 d2
  go_wp2_with fail
  refine bodyPost_ret (v := .tuple #[.agg #[.int .i64 0, .int .i64 0, .slice none 0 0, .slice none 0 0, .slice none 0 0, .int .i64 0, .int .i64 0, .int .i64 0], .int .i64 0, .int .i64 2]) ?_ rfl ?_
  · exact results_row_tmp2 (t := 24) rfl _ _ w.heap.size _ (fr := (0, 0)) _ _ _ rfl rfl rfl HQ.out.1.zend.2 Tryd.underlying24 rfl infoHd
  · exact ⟨HQ.out.1.zend.1, Or.inl ⟨2, HE.out.1, rfl⟩⟩
set_option maxRecDepth 20000 in
set_option maxHeartbeats 4000000 in
theorem peekS_sb (b off n cap m : Nat) (xs : List Int) (w : World) (hl : Lies w b off n cap xs) (hB : Bytes xs) (hn : n ≤ 65536) (h1 : 1 ≤ n) (hm : m ≤ 8) (hF : ¬ vals (sub xs 0 1) < 64) (hF2 : vals (sub xs 0 1) < 128) (hs : ¬ n < 1 + m) (hs2 : n < 1 + m + 12) :
    Calls Tryd.prog 27 #[.slice (some ⟨b, off, none⟩) n cap, .int .i64 m] w fun e w' => PkPost xs m w e w' := by
  have hlen := hl.len
  have P0 := ps_new w (.slice (some ⟨b, off, none⟩) n cap)
  have hbg : b ≠ w.heap.size + 1 + 1 := by have := hl.lt; omega
  have hf := fixedS_ok (w.heap.size + 1 + 1) b off n cap 0 1 xs _ P0.rd (hl.below P0.bel) hB hbg hn (by omega) (by decide) (by decide)
  have d1 : decide (vals (sub xs 0 1) < 64) = false := decide_eq_false hF
  have d1b : decide (vals (sub xs 0 1) < 128) = true := decide_eq_true hF2
  have HD : Hid _ := And.intro hlen (And.intro hn (And.intro h1 (And.intro hs (And.intro hl hbg))))
  have hsl : (sub xs 1 m).length = m := sub_len xs 1 m (by omega)
  obtain ⟨q1, hq1⟩ : ∃ q1 : Nat, q1 = 0 + 1 + m := ⟨_, rfl⟩
  have hw : IntKind.i64.wrap ((n : Int) - (q1 : Int)) = (n : Int) - (q1 : Int) := by rw [IntKind.wrap_i64]; omega
  have e : pk xs m = .error 2 := by unfold pk; rw [if_neg (by omega), if_neg (by omega), if_neg (by omega), if_neg (by omega), if_pos hF2]; unfold pkShP; rw [Int.toNat_natCast]; unfold pkSho; rw [if_pos (by omega)]
  have d4 : decide ((n : Int) - (q1 : Int) < 12) = true := decide_eq_true (by omega)
  generalize vals (sub xs 0 1) = f at hf d1 d1b
  have HE : Hid _ := And.intro e (And.intro P0 (And.intro hq1 hsl))
  clear e P0 hlen hF hF2 hl hB hbg hs hn h1 hs2 hsl hq1
  go_enter Tryd.func27, Tryd.ntmps27
  go_wp2_with fail
  go_at_call 36
  refine hf.mono ?_
  rintro e w1 ⟨rfl, r1, c1⟩
  have P1 := HE.out.2.1.next r1 c1
  have d2 := P1.rd.c2
  have ht := takeS_ok (w.heap.size + 1 + 1) b off n cap (0 + 1) m xs w1 P1.rd (HD.out.2.2.2.2.1.below P1.bel) HD.out.2.2.2.2.2 HD.out.2.1 (by have := HD.out.2.2.2.1; omega)
  rw [← HE.out.2.2.1] at ht
  have HP : Hid _ := And.intro P1 True.intro
  clear r1 c1 P1
  go_wp2_with fail
  go_at_call 37
  refine ht.mono ?_
  rintro e w2 ⟨vd, rfl, o2, r2, c2⟩
  clear ht d2
  have P2 := HP.out.1.next r2 c2
  have d3 := P2.rd.c2
  have d3b := P2.rd.c1
  obtain ⟨zc0, zc1, zc2, zc3, zc4, zc5, zc6, zc7⟩ := hdB_cells P2.r0
  obtain ⟨zf0, zf1, zf2, zf3, zf4, zf5, zf6, zf7⟩ := hdB_free P2.r0
  obtain ⟨zn0, zn1, zn2, zn3, zn4, zn5, zn6, zn7⟩ := hdB_cells P2.r1
  have HQ : Hid _ := And.intro P2 True.intro
  clear r2 c2 P2 o2
  go_wp2_with fail
  refine bodyPost_ret (v := .tuple #[.agg #[.int .i64 0, .int .i64 0, .slice none 0 0, .slice none 0 0, .slice none 0 0, .int .i64 0, .int .i64 0, .int .i64 0], .int .i64 0, .int .i64 2]) ?_ rfl ?_
  · exact results_row_tmp2 (t := 24) rfl _ _ w.heap.size _ (fr := (0, 0)) _ _ _ rfl rfl rfl HQ.out.1.zend.2 Tryd.underlying24 rfl infoHd
  · exact ⟨HQ.out.1.zend.1, Or.inl ⟨2, HE.out.1, rfl⟩⟩
set_option maxRecDepth 20000 in
set_option maxHeartbeats 4000000 in
theorem peekS_sc (b off n cap m : Nat) (xs : List Int) (w : World) (hl : Lies w b off n cap xs) (hB : Bytes xs) (hn : n ≤ 65536) (h1 : 1 ≤ n) (hm : m ≤ 8) (hF : ¬ vals (sub xs 0 1) < 64) (hF2 : vals (sub xs 0 1) < 128) (hs : ¬ n < 1 + m) (hs2 : ¬ n < 1 + m + 12) :
    Calls Tryd.prog 27 #[.slice (some ⟨b, off, none⟩) n cap, .int .i64 m] w fun e w' => PkPost xs m w e w' := by
  have hlen := hl.len
  have P0 := ps_new w (.slice (some ⟨b, off, none⟩) n cap)
  have hbg : b ≠ w.heap.size + 1 + 1 := by have := hl.lt; omega
  have hf := fixedS_ok (w.heap.size + 1 + 1) b off n cap 0 1 xs _ P0.rd (hl.below P0.bel) hB hbg hn (by omega) (by decide) (by decide)
  have d1 : decide (vals (sub xs 0 1) < 64) = false := decide_eq_false hF
  have d1b : decide (vals (sub xs 0 1) < 128) = true := decide_eq_true hF2
  have HD : Hid _ := And.intro hlen (And.intro hn (And.intro h1 (And.intro hs (And.intro hl hbg))))
  have hsl : (sub xs 1 m).length = m := sub_len xs 1 m (by omega)
  obtain ⟨q1, hq1⟩ : ∃ q1 : Nat, q1 = 0 + 1 + m := ⟨_, rfl⟩
  have hw : IntKind.i64.wrap ((n : Int) - (q1 : Int)) = (n : Int) - (q1 : Int) := by rw [IntKind.wrap_i64]; omega
  have e : pk xs m = .ok ⟨4, 0, sub xs 1 m, [], [], [], 1 + m, xs.length⟩ := by unfold pk; rw [if_neg (by omega), if_neg (by omega), if_neg (by omega), if_neg (by omega), if_pos hF2]; unfold pkShP; rw [Int.toNat_natCast]; unfold pkSho; rw [if_neg (by omega)]
  have d4 : decide ((n : Int) - (q1 : Int) < 12) = false := decide_eq_false (by omega)
  generalize vals (sub xs 0 1) = f at hf d1 d1b
  have HE : Hid _ := And.intro e (And.intro P0 (And.intro hq1 hsl))
  clear e P0 hlen hF hF2 hl hB hbg hs hn h1 hs2 hsl hq1
  go_enter Tryd.func27, Tryd.ntmps27
  go_wp2_with fail
  go_at_call 36
  refine hf.mono ?_
  rintro e w1 ⟨rfl, r1, c1⟩
  have P1 := HE.out.2.1.next r1 c1
  have d2 := P1.rd.c2
  have ht := takeS_ok (w.heap.size + 1 + 1) b off n cap (0 + 1) m xs w1 P1.rd (HD.out.2.2.2.2.1.below P1.bel) HD.out.2.2.2.2.2 HD.out.2.1 (by have := HD.out.2.2.2.1; omega)
  rw [← HE.out.2.2.1] at ht
  have HP : Hid _ := And.intro P1 True.intro
  clear r1 c1 P1
  go_wp2_with fail
  go_at_call 37
  refine ht.mono ?_
  rintro e w2 ⟨vd, rfl, o2, r2, c2⟩
  clear ht d2
  have P2 := HP.out.1.next r2 c2
  have d3 := P2.rd.c2
  have d3b := P2.rd.c1
  obtain ⟨da, dp, ed⟩ := (row_of_owns o2).form
  rw [show List.length _ = m from HE.out.2.2.2] at ed
  subst ed
  obtain ⟨zc0, zc1, zc2, zc3, zc4, zc5, zc6, zc7⟩ := hdB_cells P2.r0
  obtain ⟨zf0, zf1, zf2, zf3, zf4, zf5, zf6, zf7⟩ := hdB_free P2.r0
  obtain ⟨zn0, zn1, zn2, zn3, zn4, zn5, zn6, zn7⟩ := hdB_cells P2.r1
  have hN : w.heap.size < w1.heap.size := by have := HP.out.1.rd.lt; omega
  have hE8 := st8_heap (a0 := .int .i64 4) (a1 := .int .i64 0) (a2 := .slice da m dp) (a3 := .slice none 0 0) (a4 := .slice none 0 0) (a5 := .int .i64 0) (a6 := .int .i64 0) (a7 := .int .i64 0) P2.r0
  have hB8 := st8_below (a0 := .int .i64 4) (a1 := .int .i64 0) (a2 := .slice da m dp) (a3 := .slice none 0 0) (a4 := .slice none 0 0) (a5 := .int .i64 0) (a6 := .int .i64 0) (a7 := .int .i64 0) P2.bel (Nat.le_refl w.heap.size)
  have hO8 := st8_owns (a0 := .int .i64 4) (a1 := .int .i64 0) (a2 := .slice da m dp) (a3 := .slice none 0 0) (a4 := .slice none 0 0) (a5 := .int .i64 0) (a6 := .int .i64 0) (a7 := .int .i64 0) o2 hN
  have HQ : Hid _ := And.intro hE8 (And.intro hB8 (owns_mono hO8 (Nat.le_of_lt hN)))
  clear r2 c2 P2 o2 hE8 hB8 hO8 hN
  go_wp2_with fail
  refine bodyPost_ret (v := .tuple #[.agg #[.int .i64 4, .int .i64 0, .slice da m dp, .slice none 0 0, .slice none 0 0, .int .i64 0, .int .i64 0, .int .i64 0], .int .i64 n, .int .i64 0]) ?_ rfl ?_
  · exact results_row_tmp2 (t := 24) rfl _ _ w.heap.size _ (fr := (0, 0)) _ _ _ rfl rfl rfl HQ.out.1 Tryd.underlying24 rfl infoHd
  · refine ⟨HQ.out.2.1, Or.inr ⟨_, .slice da m dp, .slice none 0 0, .slice none 0 0, HE.out.1, by rw [HD.out.1], ⟨?_, World.ownsRow_nil _ _ _ _, World.ownsRow_nil _ _ _ _, apart_nil _, apart_nil _, apart_nil _⟩⟩⟩
    show World.ownsRow _ _ _ _ _ (sub xs 1 m).length _
    rw [HE.out.2.2.2]
    exact HQ.out.2.2
end Go.Proofs.YtbbiinbjgognjaaDoor
