import Derived.Test.YtoalillggafnpaaGreatDoorPjB
import Derived.Deep.RegionWith
namespace Go.Proofs.YtoalillggafnpaaGreatDoor
open Go.RowKit
set_option linter.unusedVariables false

set_option maxRecDepth 20000 in
set_option maxHeartbeats 4000000 in
theorem peekS_l01 (b off n cap m : Nat) (xs : List Int) (w : World) (hl : Lies w b off n cap xs) (hB : Bytes xs) (hn : n ≤ 65536) (h1 : 1 ≤ n) (hm : m ≤ 8) (hF : ¬ vals (sub xs 0 1) < 128) (h5 : n < 5) :
    Calls Tryz.prog 38 #[.slice (some ⟨b, off, none⟩) n cap, .int .i64 m] w fun e w' => PkPost xs m w e w' := by
  have hlen := hl.len
  have P0 := ps_new w (.slice (some ⟨b, off, none⟩) n cap)
  have hbg : b ≠ w.heap.size + 1 + 1 := by have := hl.lt; omega
  have hf := fixedS_ok (w.heap.size + 1 + 1) b off n cap 0 1 xs _ P0.rd (hl.below P0.bel) hB hbg hn (by omega) (by decide) (by decide)
  have eP := pk_long xs m (by omega) (by omega) hm hF
  have e : pkLong xs (vals (sub xs 0 1)) = .error 2 := by unfold pkLong; rw [if_pos (by omega)]
  have d1 : decide (vals (sub xs 0 1) < 64) = false := decide_eq_false (by omega)
  have d1b : decide (vals (sub xs 0 1) < 128) = false := decide_eq_false hF
  have HX : Hid _ := And.intro eP (And.intro e (And.intro P0 (And.intro hl (And.intro hB (And.intro hn (And.intro hbg (And.intro hlen (And.intro h1 h5))))))))
  clear eP e P0 hl hB hbg hlen hF hn h1 h5
  obtain ⟨f, hfe⟩ : ∃ f, f = vals (sub xs 0 1) := ⟨_, rfl⟩
  rw [← hfe] at hf d1 d1b
  have HFE : Hid _ := And.intro hfe True.intro
  clear hfe
  go_enter Tryz.func38, Tryz.ntmps38
  go_wp2_with fail
  go_at_call 61
  refine hf.mono ?_
  rintro e w1 ⟨rfl, r1, c1⟩
  clear hf
  have HA : Hid _ := And.intro (HX.out.2.2.1.next r1 c1) True.intro
  have f1 := HA.out.1.rd.c2
  clear r1 c1
  have hv := fixedS_no (w.heap.size + 1 + 1) (some ⟨b, off, none⟩) n cap ((0 + 1 : Nat) : Int) 4 false w1 HA.out.1.rd ⟨by omega, by have := HX.out.2.2.2.2.2.2.2.2.1; omega⟩ (by have := HX.out.2.2.2.2.2.1; omega) (Or.inr (by have := HX.out.2.2.2.2.2.2.2.2.2; omega))
  go_wp2_with fail
  go_at_call 61
  refine hv.mono ?_
  rintro e w2 ⟨rfl, r2, c2⟩
  clear hv f1
  have HC : Hid _ := And.intro (ph_new (HA.out.1.next r2 c2) 0) True.intro
  clear r2 c2
  have hc := fixedS_no (w.heap.size + 1 + 1) (some ⟨b, off, none⟩) n cap ((0 + 1 : Nat) : Int) 1 true _ HC.out.1.ps.rd ⟨by omega, by have := HX.out.2.2.2.2.2.2.2.2.1; omega⟩ (by have := HX.out.2.2.2.2.2.1; omega) (Or.inl rfl)
  go_wp2_with fail
  go_at_call 61
  refine hc.mono ?_
  rintro e w3 ⟨rfl, r3, c3⟩
  clear hc
  have HQ : Hid _ := And.intro (HC.out.1.next r3 c3) True.intro
  have f3 := HQ.out.1.ps.rd.c2
  clear r3 c3
  obtain ⟨zc0, zc1, zc2, zc3, zc4, zc5, zc6, zc7⟩ := hdB_cells HQ.out.1.ps.r0
  obtain ⟨zf0, zf1, zf2, zf3, zf4, zf5, zf6, zf7⟩ := hdB_free HQ.out.1.ps.r0
  obtain ⟨zn0, zn1, zn2, zn3, zn4, zn5, zn6, zn7⟩ := hdB_cells HQ.out.1.ps.r1
  have hfl := faultS_t (w.heap.size + 1 + 1) _ _ w3.drew HQ.out.1.ps.rd.drewX
  go_wp2_with fail
  go_region_with (go_at_call 63; refine hfl.mono ?_; rintro e wz ⟨rfl, hwz⟩; rw [hwz]; clear hwz wz)
  all_goals (go_wp2_with fail)
  all_goals (refine bodyPost_ret (v := .tuple #[.agg #[.int .i64 0, .int .i64 0, .slice none 0 0, .slice none 0 0, .slice none 0 0, .int .i64 0, .int .i64 0, .int .i64 0], .int .i64 0, .int .i64 2]) ?_ rfl ?_)
  all_goals first
    | exact results_row_tmp2 (t := 24) rfl _ _ w.heap.size _ (fr := (0, 0)) _ _ _ rfl rfl rfl HQ.out.1.ps.zendD.2 Tryz.underlying24 rfl infoHd
    | exact ⟨HQ.out.1.ps.zendD.1, Or.inl ⟨2, HX.out.1.trans HX.out.2.1, rfl⟩⟩
set_option maxRecDepth 20000 in
set_option maxHeartbeats 4000000 in
theorem peekS_l02 (b off n cap m : Nat) (xs : List Int) (w : World) (hl : Lies w b off n cap xs) (hB : Bytes xs) (hn : n ≤ 65536) (h1 : 1 ≤ n) (hm : m ≤ 8) (hF : ¬ vals (sub xs 0 1) < 128) (h5 : ¬ n < 5) (h6 : n < 6) :
    Calls Tryz.prog 38 #[.slice (some ⟨b, off, none⟩) n cap, .int .i64 m] w fun e w' => PkPost xs m w e w' := by
  have hlen := hl.len
  have P0 := ps_new w (.slice (some ⟨b, off, none⟩) n cap)
  have hbg : b ≠ w.heap.size + 1 + 1 := by have := hl.lt; omega
  have hf := fixedS_ok (w.heap.size + 1 + 1) b off n cap 0 1 xs _ P0.rd (hl.below P0.bel) hB hbg hn (by omega) (by decide) (by decide)
  have eP := pk_long xs m (by omega) (by omega) hm hF
  have e : pkLong xs (vals (sub xs 0 1)) = .error 2 := pkLong_2 (by omega) (cid_e1 xs 5 (by omega))
  have d1 : decide (vals (sub xs 0 1) < 64) = false := decide_eq_false (by omega)
  have d1b : decide (vals (sub xs 0 1) < 128) = false := decide_eq_false hF
  have HX : Hid _ := And.intro eP (And.intro e (And.intro P0 (And.intro hl (And.intro hB (And.intro hn (And.intro hbg (And.intro hlen (And.intro h5 h6))))))))
  clear eP e P0 hl hB hbg hlen hF hn h1 h5 h6
  obtain ⟨f, hfe⟩ : ∃ f, f = vals (sub xs 0 1) := ⟨_, rfl⟩
  rw [← hfe] at hf d1 d1b
  have HFE : Hid _ := And.intro hfe True.intro
  clear hfe
  go_enter Tryz.func38, Tryz.ntmps38
  go_wp2_with fail
  go_at_call 61
  refine hf.mono ?_
  rintro e w1 ⟨rfl, r1, c1⟩
  clear hf
  have HA : Hid _ := And.intro (HX.out.2.2.1.next r1 c1) True.intro
  have f1 := HA.out.1.rd.c2
  clear r1 c1
  have hv := fixedS_ok (w.heap.size + 1 + 1) b off n cap (0 + 1) 4 xs w1 HA.out.1.rd (HX.out.2.2.2.1.below HA.out.1.bel) HX.out.2.2.2.2.1 HX.out.2.2.2.2.2.2.1 HX.out.2.2.2.2.2.1 (by have := HX.out.2.2.2.2.2.2.2.2.1; omega) (by decide) (by decide)
  obtain ⟨V, hVe⟩ : ∃ V, V = vals (sub xs (0 + 1) 4) := ⟨_, rfl⟩
  rw [← hVe] at hv
  have HVE : Hid _ := And.intro hVe True.intro
  clear hVe
  go_wp2_with fail
  go_at_call 61
  refine hv.mono ?_
  rintro e w2 ⟨rfl, r2, c2⟩
  clear hv f1
  have HC : Hid _ := And.intro (ph_new (HA.out.1.next r2 c2) V) True.intro
  clear r2 c2
  have hc := fixedS_no (w.heap.size + 1 + 1) (some ⟨b, off, none⟩) n cap ((0 + 1 + 4 : Nat) : Int) 1 false _ HC.out.1.ps.rd ⟨by omega, by have := HX.out.2.2.2.2.2.2.2.2.1; omega⟩ (by have := HX.out.2.2.2.2.2.1; omega) (Or.inr (by have := HX.out.2.2.2.2.2.2.2.2.2; omega))
  go_wp2_with fail
  go_at_call 61
  refine hc.mono ?_
  rintro e w3 ⟨rfl, r3, c3⟩
  clear hc
  have HQ : Hid _ := And.intro (HC.out.1.next r3 c3) True.intro
  have f3 := HQ.out.1.ps.rd.c2
  clear r3 c3
  obtain ⟨zc0, zc1, zc2, zc3, zc4, zc5, zc6, zc7⟩ := hdB_cells HQ.out.1.ps.r0
  obtain ⟨zf0, zf1, zf2, zf3, zf4, zf5, zf6, zf7⟩ := hdB_free HQ.out.1.ps.r0
  obtain ⟨zn0, zn1, zn2, zn3, zn4, zn5, zn6, zn7⟩ := hdB_cells HQ.out.1.ps.r1
  have hfl := faultS_t (w.heap.size + 1 + 1) _ _ w3.drew HQ.out.1.ps.rd.drewX
  go_wp2_with fail
  go_region_with (go_at_call 63; refine hfl.mono ?_; rintro e wz ⟨rfl, hwz⟩; rw [hwz]; clear hwz wz)
  all_goals (go_wp2_with fail)
  all_goals (refine bodyPost_ret (v := .tuple #[.agg #[.int .i64 0, .int .i64 0, .slice none 0 0, .slice none 0 0, .slice none 0 0, .int .i64 0, .int .i64 0, .int .i64 0], .int .i64 0, .int .i64 2]) ?_ rfl ?_)
  all_goals first
    | exact results_row_tmp2 (t := 24) rfl _ _ w.heap.size _ (fr := (0, 0)) _ _ _ rfl rfl rfl HQ.out.1.ps.zendD.2 Tryz.underlying24 rfl infoHd
    | exact ⟨HQ.out.1.ps.zendD.1, Or.inl ⟨2, HX.out.1.trans HX.out.2.1, rfl⟩⟩
set_option maxRecDepth 20000 in
set_option maxHeartbeats 4000000 in
theorem peekS_l03 (b off n cap m : Nat) (xs : List Int) (w : World) (hl : Lies w b off n cap xs) (hB : Bytes xs) (hn : n ≤ 65536) (h1 : 1 ≤ n) (hm : m ≤ 8) (hF : ¬ vals (sub xs 0 1) < 128) (h6 : ¬ n < 6) (L1 : Nat) (hL1 : vals (sub xs 5 1) = (L1 : Int)) (h81 : 8 < L1) :
    Calls Tryz.prog 38 #[.slice (some ⟨b, off, none⟩) n cap, .int .i64 m] w fun e w' => PkPost xs m w e w' := by
  have hlen := hl.len
  have P0 := ps_new w (.slice (some ⟨b, off, none⟩) n cap)
  have hbg : b ≠ w.heap.size + 1 + 1 := by have := hl.lt; omega
  have hf := fixedS_ok (w.heap.size + 1 + 1) b off n cap 0 1 xs _ P0.rd (hl.below P0.bel) hB hbg hn (by omega) (by decide) (by decide)
  have eP := pk_long xs m (by omega) (by omega) hm hF
  have e : pkLong xs (vals (sub xs 0 1)) = .error 3 := pkLong_2 (by omega) (cid_e2 xs 5 L1 (by omega) hL1 h81)
  have d1 : decide (vals (sub xs 0 1) < 64) = false := decide_eq_false (by omega)
  have d1b : decide (vals (sub xs 0 1) < 128) = false := decide_eq_false hF
  have HX : Hid _ := And.intro eP (And.intro e (And.intro P0 (And.intro hl (And.intro hB (And.intro hn (And.intro hbg (And.intro hlen (And.intro h6 (And.intro hL1 h81)))))))))
  clear eP e P0 hl hB hbg hlen hF hn h1 h6 hL1 h81
  obtain ⟨f, hfe⟩ : ∃ f, f = vals (sub xs 0 1) := ⟨_, rfl⟩
  rw [← hfe] at hf d1 d1b
  have HFE : Hid _ := And.intro hfe True.intro
  clear hfe
  go_enter Tryz.func38, Tryz.ntmps38
  go_wp2_with fail
  go_at_call 61
  refine hf.mono ?_
  rintro e w1 ⟨rfl, r1, c1⟩
  clear hf
  have HA : Hid _ := And.intro (HX.out.2.2.1.next r1 c1) True.intro
  have f1 := HA.out.1.rd.c2
  clear r1 c1
  have hv := fixedS_ok (w.heap.size + 1 + 1) b off n cap (0 + 1) 4 xs w1 HA.out.1.rd (HX.out.2.2.2.1.below HA.out.1.bel) HX.out.2.2.2.2.1 HX.out.2.2.2.2.2.2.1 HX.out.2.2.2.2.2.1 (by have a0 := HX.out.2.2.2.2.2.2.2.2.1; omega) (by decide) (by decide)
  obtain ⟨V, hVe⟩ : ∃ V, V = vals (sub xs (0 + 1) 4) := ⟨_, rfl⟩
  rw [← hVe] at hv
  have HVE : Hid _ := And.intro hVe True.intro
  clear hVe
  go_wp2_with fail
  go_at_call 61
  refine hv.mono ?_
  rintro e w2 ⟨rfl, r2, c2⟩
  clear hv f1
  have HC : Hid _ := And.intro (ph_new (HA.out.1.next r2 c2) V) True.intro
  clear r2 c2
  have hc := fixedS_ok (w.heap.size + 1 + 1) b off n cap 5 1 xs _ (show srB _ _ _ ((5 : Nat) : Int) _ from HC.out.1.ps.rd) (HX.out.2.2.2.1.below HC.out.1.ps.bel) HX.out.2.2.2.2.1 HX.out.2.2.2.2.2.2.1 HX.out.2.2.2.2.2.1 (by have a0 := HX.out.2.2.2.2.2.2.2.2.1; omega) (by decide) (by decide)
  rw [HX.out.2.2.2.2.2.2.2.2.2.1] at hc
  go_wp2_with fail
  go_at_call 61
  refine hc.mono ?_
  rintro e w3 ⟨rfl, r3, c3⟩
  clear hc
  have HE3 : Hid _ := And.intro (HC.out.1.next r3 c3) (Nat.le_trans HC.out.1.ps.bel.size c3.size)
  have f3 := HE3.out.1.ps.rd.c2
  clear r3 c3
  have b1 : decide ((8 : Int) < (L1 : Int)) = true := decide_eq_true (by have a0 := HX.out.2.2.2.2.2.2.2.2.2.2; omega)
  obtain ⟨zc0, zc1, zc2, zc3, zc4, zc5, zc6, zc7⟩ := hdB_cells HE3.out.1.ps.r0
  obtain ⟨zf0, zf1, zf2, zf3, zf4, zf5, zf6, zf7⟩ := hdB_free HE3.out.1.ps.r0
  obtain ⟨zn0, zn1, zn2, zn3, zn4, zn5, zn6, zn7⟩ := hdB_cells HE3.out.1.ps.r1
  have hfl := faultS_f (w.heap.size + 1 + 1) _ _ w3.drew HE3.out.1.ps.rd.drewX
  go_wp2_with fail
  go_region_with (go_at_call 63; refine hfl.mono ?_; rintro e wz ⟨rfl, hwz⟩; rw [hwz]; clear hwz wz)
  all_goals (go_wp2_with fail)
  all_goals (refine bodyPost_ret (v := .tuple #[.agg #[.int .i64 0, .int .i64 0, .slice none 0 0, .slice none 0 0, .slice none 0 0, .int .i64 0, .int .i64 0, .int .i64 0], .int .i64 0, .int .i64 3]) ?_ rfl ?_)
  all_goals first
    | exact results_row_tmp2 (t := 24) rfl _ _ w.heap.size _ (fr := (0, 0)) _ _ _ rfl rfl rfl HE3.out.1.ps.zendD.2 Tryz.underlying24 rfl infoHd
    | exact ⟨HE3.out.1.ps.zendD.1, Or.inl ⟨3, HX.out.1.trans HX.out.2.1, rfl⟩⟩
set_option maxRecDepth 20000 in
set_option maxHeartbeats 4000000 in
theorem peekS_l04 (b off n cap m : Nat) (xs : List Int) (w : World) (hl : Lies w b off n cap xs) (hB : Bytes xs) (hn : n ≤ 65536) (h1 : 1 ≤ n) (hm : m ≤ 8) (hF : ¬ vals (sub xs 0 1) < 128) (h6 : ¬ n < 6) (L1 : Nat) (hL1 : vals (sub xs 5 1) = (L1 : Int)) (h81 : ¬ 8 < L1) (hs1 : n < 6 + L1) :
    Calls Tryz.prog 38 #[.slice (some ⟨b, off, none⟩) n cap, .int .i64 m] w fun e w' => PkPost xs m w e w' := by
  have hlen := hl.len
  have P0 := ps_new w (.slice (some ⟨b, off, none⟩) n cap)
  have hbg : b ≠ w.heap.size + 1 + 1 := by have := hl.lt; omega
  have hf := fixedS_ok (w.heap.size + 1 + 1) b off n cap 0 1 xs _ P0.rd (hl.below P0.bel) hB hbg hn (by omega) (by decide) (by decide)
  have eP := pk_long xs m (by omega) (by omega) hm hF
  have e : pkLong xs (vals (sub xs 0 1)) = .error 2 := pkLong_2 (by omega) (cid_e3 xs 5 L1 (by omega) hL1 h81 (by omega))
  have d1 : decide (vals (sub xs 0 1) < 64) = false := decide_eq_false (by omega)
  have d1b : decide (vals (sub xs 0 1) < 128) = false := decide_eq_false hF
  have HX : Hid _ := And.intro eP (And.intro e (And.intro P0 (And.intro hl (And.intro hB (And.intro hn (And.intro hbg (And.intro hlen (And.intro h6 (And.intro hL1 (And.intro h81 hs1))))))))))
  clear eP e P0 hl hB hbg hlen hF hn h1 h6 hL1 h81 hs1
  obtain ⟨f, hfe⟩ : ∃ f, f = vals (sub xs 0 1) := ⟨_, rfl⟩
  rw [← hfe] at hf d1 d1b
  have HFE : Hid _ := And.intro hfe True.intro
  clear hfe
  go_enter Tryz.func38, Tryz.ntmps38
  go_wp2_with fail
  go_at_call 61
  refine hf.mono ?_
  rintro e w1 ⟨rfl, r1, c1⟩
  clear hf
  have HA : Hid _ := And.intro (HX.out.2.2.1.next r1 c1) True.intro
  have f1 := HA.out.1.rd.c2
  clear r1 c1
  have hv := fixedS_ok (w.heap.size + 1 + 1) b off n cap (0 + 1) 4 xs w1 HA.out.1.rd (HX.out.2.2.2.1.below HA.out.1.bel) HX.out.2.2.2.2.1 HX.out.2.2.2.2.2.2.1 HX.out.2.2.2.2.2.1 (by have a0 := HX.out.2.2.2.2.2.2.2.2.1; omega) (by decide) (by decide)
  obtain ⟨V, hVe⟩ : ∃ V, V = vals (sub xs (0 + 1) 4) := ⟨_, rfl⟩
  rw [← hVe] at hv
  have HVE : Hid _ := And.intro hVe True.intro
  clear hVe
  go_wp2_with fail
  go_at_call 61
  refine hv.mono ?_
  rintro e w2 ⟨rfl, r2, c2⟩
  clear hv f1
  have HC : Hid _ := And.intro (ph_new (HA.out.1.next r2 c2) V) True.intro
  clear r2 c2
  have hc := fixedS_ok (w.heap.size + 1 + 1) b off n cap 5 1 xs _ (show srB _ _ _ ((5 : Nat) : Int) _ from HC.out.1.ps.rd) (HX.out.2.2.2.1.below HC.out.1.ps.bel) HX.out.2.2.2.2.1 HX.out.2.2.2.2.2.2.1 HX.out.2.2.2.2.2.1 (by have a0 := HX.out.2.2.2.2.2.2.2.2.1; omega) (by decide) (by decide)
  rw [HX.out.2.2.2.2.2.2.2.2.2.1] at hc
  go_wp2_with fail
  go_at_call 61
  refine hc.mono ?_
  rintro e w3 ⟨rfl, r3, c3⟩
  clear hc
  have HE3 : Hid _ := And.intro (HC.out.1.next r3 c3) (Nat.le_trans HC.out.1.ps.bel.size c3.size)
  have f3 := HE3.out.1.ps.rd.c2
  clear r3 c3
  have ht := takeS_no (w.heap.size + 1 + 1) (some ⟨b, off, none⟩) n cap ((5 + 1 : Nat) : Int) L1 false w3 HE3.out.1.ps.rd ⟨by omega, by have a0 := HX.out.2.2.2.2.2.2.2.2.1; omega⟩ (by have a0 := HX.out.2.2.2.2.2.1; omega) (Or.inr (by have a0 := HX.out.2.2.2.2.2.2.2.2.2.2.2; omega))
  have b1 : decide ((8 : Int) < (L1 : Int)) = false := decide_eq_false (by have a0 := HX.out.2.2.2.2.2.2.2.2.2.2.1; omega)
  go_wp2_with fail
  go_at_call 62
  refine ht.mono ?_
  rintro e w4 ⟨q, rfl, hq, o4, r4, c4⟩
  clear ht f3 o4 hq
  have HT4 := HE3.out.1.next r4 c4
  have s2 : w4.cell? ⟨w2.heap.size, 2, none⟩ = some (.slice none 0 0) := (hdB_cells HT4.hd).2.2.1
  have s2f : w4.frozen? ⟨w2.heap.size, 2, none⟩ = false := (hdB_free HT4.hd).2.2.1
  have HF4 : Hid _ := And.intro (HT4.set2 (.slice (some ⟨q, 0, none⟩) 0 0)) True.intro
  clear HT4 r4 c4
  have hc := fixedS_no (w.heap.size + 1 + 1) (some ⟨b, off, none⟩) n cap ((5 + 1 : Nat) : Int) 1 true _ HF4.out.1.ps.rd ⟨by omega, by have a0 := HX.out.2.2.2.2.2.2.2.2.1; omega⟩ (by have a0 := HX.out.2.2.2.2.2.1; omega) (Or.inl rfl)
  go_wp2_with fail
  go_at_call 61
  refine hc.mono ?_
  rintro e w5 ⟨rfl, r5, c5⟩
  clear hc s2 s2f b1
  have HQ : Hid _ := And.intro (HF4.out.1.next r5 c5) True.intro
  have f5 := HQ.out.1.ps.rd.c2
  clear r5 c5
  obtain ⟨zc0, zc1, zc2, zc3, zc4, zc5, zc6, zc7⟩ := hdB_cells HQ.out.1.ps.r0
  obtain ⟨zf0, zf1, zf2, zf3, zf4, zf5, zf6, zf7⟩ := hdB_free HQ.out.1.ps.r0
  obtain ⟨zn0, zn1, zn2, zn3, zn4, zn5, zn6, zn7⟩ := hdB_cells HQ.out.1.ps.r1
  have hfl := faultS_t (w.heap.size + 1 + 1) _ _ w5.drew HQ.out.1.ps.rd.drewX
  go_wp2_with fail
  go_region_with (go_at_call 63; refine hfl.mono ?_; rintro e wz ⟨rfl, hwz⟩; rw [hwz]; clear hwz wz)
  all_goals (go_wp2_with fail)
  all_goals (refine bodyPost_ret (v := .tuple #[.agg #[.int .i64 0, .int .i64 0, .slice none 0 0, .slice none 0 0, .slice none 0 0, .int .i64 0, .int .i64 0, .int .i64 0], .int .i64 0, .int .i64 2]) ?_ rfl ?_)
  all_goals first
    | exact results_row_tmp2 (t := 24) rfl _ _ w.heap.size _ (fr := (0, 0)) _ _ _ rfl rfl rfl HQ.out.1.ps.zendD.2 Tryz.underlying24 rfl infoHd
    | exact ⟨HQ.out.1.ps.zendD.1, Or.inl ⟨2, HX.out.1.trans HX.out.2.1, rfl⟩⟩
set_option maxRecDepth 20000 in
set_option maxHeartbeats 4000000 in
theorem peekS_l05 (b off n cap m : Nat) (xs : List Int) (w : World) (hl : Lies w b off n cap xs) (hB : Bytes xs) (hn : n ≤ 65536) (h1 : 1 ≤ n) (hm : m ≤ 8) (hF : ¬ vals (sub xs 0 1) < 128) (h6 : ¬ n < 6) (L1 : Nat) (hL1 : vals (sub xs 5 1) = (L1 : Int)) (h81 : ¬ 8 < L1) (hs1 : ¬ n < 6 + L1) (h7 : n < 7 + L1) :
    Calls Tryz.prog 38 #[.slice (some ⟨b, off, none⟩) n cap, .int .i64 m] w fun e w' => PkPost xs m w e w' := by
  have hlen := hl.len
  have P0 := ps_new w (.slice (some ⟨b, off, none⟩) n cap)
  have hbg : b ≠ w.heap.size + 1 + 1 := by have := hl.lt; omega
  have hf := fixedS_ok (w.heap.size + 1 + 1) b off n cap 0 1 xs _ P0.rd (hl.below P0.bel) hB hbg hn (by omega) (by decide) (by decide)
  have eP := pk_long xs m (by omega) (by omega) hm hF
  have e : pkLong xs (vals (sub xs 0 1)) = .error 2 := pkLong_3 (by omega) (cid_ok xs 5 L1 (by omega) hL1 h81 (by omega)) (cid_e1 xs _ (by omega))
  have d1 : decide (vals (sub xs 0 1) < 64) = false := decide_eq_false (by omega)
  have d1b : decide (vals (sub xs 0 1) < 128) = false := decide_eq_false hF
  have HX : Hid _ := And.intro eP (And.intro e (And.intro P0 (And.intro hl (And.intro hB (And.intro hn (And.intro hbg (And.intro hlen (And.intro h6 (And.intro hL1 (And.intro h81 (And.intro hs1 h7)))))))))))
  clear eP e P0 hl hB hbg hlen hF hn h1 h6 hL1 h81 hs1 h7
  obtain ⟨f, hfe⟩ : ∃ f, f = vals (sub xs 0 1) := ⟨_, rfl⟩
  rw [← hfe] at hf d1 d1b
  have HFE : Hid _ := And.intro hfe True.intro
  clear hfe
  go_enter Tryz.func38, Tryz.ntmps38
  go_wp2_with fail
  go_at_call 61
  refine hf.mono ?_
  rintro e w1 ⟨rfl, r1, c1⟩
  clear hf
  have HA : Hid _ := And.intro (HX.out.2.2.1.next r1 c1) True.intro
  have f1 := HA.out.1.rd.c2
  clear r1 c1
  have hv := fixedS_ok (w.heap.size + 1 + 1) b off n cap (0 + 1) 4 xs w1 HA.out.1.rd (HX.out.2.2.2.1.below HA.out.1.bel) HX.out.2.2.2.2.1 HX.out.2.2.2.2.2.2.1 HX.out.2.2.2.2.2.1 (by have a0 := HX.out.2.2.2.2.2.2.2.2.1; omega) (by decide) (by decide)
  obtain ⟨V, hVe⟩ : ∃ V, V = vals (sub xs (0 + 1) 4) := ⟨_, rfl⟩
  rw [← hVe] at hv
  have HVE : Hid _ := And.intro hVe True.intro
  clear hVe
  go_wp2_with fail
  go_at_call 61
  refine hv.mono ?_
  rintro e w2 ⟨rfl, r2, c2⟩
  clear hv f1
  have HC : Hid _ := And.intro (ph_new (HA.out.1.next r2 c2) V) True.intro
  clear r2 c2
  have hc := fixedS_ok (w.heap.size + 1 + 1) b off n cap 5 1 xs _ (show srB _ _ _ ((5 : Nat) : Int) _ from HC.out.1.ps.rd) (HX.out.2.2.2.1.below HC.out.1.ps.bel) HX.out.2.2.2.2.1 HX.out.2.2.2.2.2.2.1 HX.out.2.2.2.2.2.1 (by have a0 := HX.out.2.2.2.2.2.2.2.2.1; omega) (by decide) (by decide)
  rw [HX.out.2.2.2.2.2.2.2.2.2.1] at hc
  go_wp2_with fail
  go_at_call 61
  refine hc.mono ?_
  rintro e w3 ⟨rfl, r3, c3⟩
  clear hc
  have HE3 : Hid _ := And.intro (HC.out.1.next r3 c3) (Nat.le_trans HC.out.1.ps.bel.size c3.size)
  have f3 := HE3.out.1.ps.rd.c2
  clear r3 c3
  have ht := takeS_ok (w.heap.size + 1 + 1) b off n cap (5 + 1) L1 xs w3 HE3.out.1.ps.rd (HX.out.2.2.2.1.below HE3.out.1.ps.bel) HX.out.2.2.2.2.2.2.1 HX.out.2.2.2.2.2.1 (by have a0 := HX.out.2.2.2.2.2.2.2.2.2.2.2.1; omega)
  have b1 : decide ((8 : Int) < (L1 : Int)) = false := decide_eq_false (by have a0 := HX.out.2.2.2.2.2.2.2.2.2.2.1; omega)
  go_wp2_with fail
  go_at_call 62
  refine ht.mono ?_
  rintro e w4 ⟨vd, rfl, o4, r4, c4⟩
  clear ht f3
  obtain ⟨da, dp, ed⟩ := (row_of_owns o4).form
  rw [sub_len xs (5 + 1) L1 (by have a0 := HX.out.2.2.2.2.2.2.2.1; have a1 := HX.out.2.2.2.2.2.2.2.2.2.2.2.1; omega)] at ed
  subst ed
  have HT4 := HE3.out.1.next r4 c4
  have s2 : w4.cell? ⟨w2.heap.size, 2, none⟩ = some (.slice none 0 0) := (hdB_cells HT4.hd).2.2.1
  have s2f : w4.frozen? ⟨w2.heap.size, 2, none⟩ = false := (hdB_free HT4.hd).2.2.1
  have HF4 : Hid _ := And.intro (HT4.set2 (.slice da L1 dp)) (And.intro o4 c4.size)
  clear HT4 r4 c4 o4
  have hc := fixedS_no (w.heap.size + 1 + 1) (some ⟨b, off, none⟩) n cap ((6 + L1 : Nat) : Int) 1 false _ (show srB _ _ _ ((6 + L1 : Nat) : Int) _ from HF4.out.1.ps.rd) ⟨by omega, by have a0 := HX.out.2.2.2.2.2.2.2.2.2.2.2.1; omega⟩ (by have a0 := HX.out.2.2.2.2.2.1; omega) (Or.inr (by have a0 := HX.out.2.2.2.2.2.2.2.2.2.2.2.2; omega))
  go_wp2_with fail
  go_at_call 61
  refine hc.mono ?_
  rintro e w5 ⟨rfl, r5, c5⟩
  clear hc s2 s2f b1
  have HQ : Hid _ := And.intro (HF4.out.1.next r5 c5) True.intro
  have f5 := HQ.out.1.ps.rd.c2
  clear r5 c5
  obtain ⟨zc0, zc1, zc2, zc3, zc4, zc5, zc6, zc7⟩ := hdB_cells HQ.out.1.ps.r0
  obtain ⟨zf0, zf1, zf2, zf3, zf4, zf5, zf6, zf7⟩ := hdB_free HQ.out.1.ps.r0
  obtain ⟨zn0, zn1, zn2, zn3, zn4, zn5, zn6, zn7⟩ := hdB_cells HQ.out.1.ps.r1
  have hfl := faultS_t (w.heap.size + 1 + 1) _ _ w5.drew HQ.out.1.ps.rd.drewX
  go_wp2_with fail
  go_region_with (go_at_call 63; refine hfl.mono ?_; rintro e wz ⟨rfl, hwz⟩; rw [hwz]; clear hwz wz)
  all_goals (go_wp2_with fail)
  all_goals (refine bodyPost_ret (v := .tuple #[.agg #[.int .i64 0, .int .i64 0, .slice none 0 0, .slice none 0 0, .slice none 0 0, .int .i64 0, .int .i64 0, .int .i64 0], .int .i64 0, .int .i64 2]) ?_ rfl ?_)
  all_goals first
    | exact results_row_tmp2 (t := 24) rfl _ _ w.heap.size _ (fr := (0, 0)) _ _ _ rfl rfl rfl HQ.out.1.ps.zendD.2 Tryz.underlying24 rfl infoHd
    | exact ⟨HQ.out.1.ps.zendD.1, Or.inl ⟨2, HX.out.1.trans HX.out.2.1, rfl⟩⟩
set_option maxRecDepth 20000 in
set_option maxHeartbeats 4000000 in
theorem peekS_l06 (b off n cap m : Nat) (xs : List Int) (w : World) (hl : Lies w b off n cap xs) (hB : Bytes xs) (hn : n ≤ 65536) (h1 : 1 ≤ n) (hm : m ≤ 8) (hF : ¬ vals (sub xs 0 1) < 128) (h6 : ¬ n < 6) (L1 : Nat) (hL1 : vals (sub xs 5 1) = (L1 : Int)) (h81 : ¬ 8 < L1) (hs1 : ¬ n < 6 + L1) (h7 : ¬ n < 7 + L1) (L2 : Nat) (hL2 : vals (sub xs (6 + L1) 1) = (L2 : Int)) (h82 : 8 < L2) :
    Calls Tryz.prog 38 #[.slice (some ⟨b, off, none⟩) n cap, .int .i64 m] w fun e w' => PkPost xs m w e w' := by
  have hlen := hl.len
  have P0 := ps_new w (.slice (some ⟨b, off, none⟩) n cap)
  have hbg : b ≠ w.heap.size + 1 + 1 := by have := hl.lt; omega
  have hf := fixedS_ok (w.heap.size + 1 + 1) b off n cap 0 1 xs _ P0.rd (hl.below P0.bel) hB hbg hn (by omega) (by decide) (by decide)
  have eP := pk_long xs m (by omega) (by omega) hm hF
  have e : pkLong xs (vals (sub xs 0 1)) = .error 3 := pkLong_3 (by omega) (cid_ok xs 5 L1 (by omega) hL1 h81 (by omega)) (show pkCid xs (5 + 1 + L1) = _ by rw [show 5 + 1 + L1 = 6 + L1 from rfl]; exact cid_e2 xs (6 + L1) L2 (by omega) hL2 h82)
  have d1 : decide (vals (sub xs 0 1) < 64) = false := decide_eq_false (by omega)
  have d1b : decide (vals (sub xs 0 1) < 128) = false := decide_eq_false hF
  have HX : Hid _ := And.intro eP (And.intro e (And.intro P0 (And.intro hl (And.intro hB (And.intro hn (And.intro hbg (And.intro hlen (And.intro h6 (And.intro hL1 (And.intro h81 (And.intro hs1 (And.intro h7 (And.intro hL2 h82)))))))))))))
  clear eP e P0 hl hB hbg hlen hF hn h1 h6 hL1 h81 hs1 h7 hL2 h82
  obtain ⟨f, hfe⟩ : ∃ f, f = vals (sub xs 0 1) := ⟨_, rfl⟩
  rw [← hfe] at hf d1 d1b
  have HFE : Hid _ := And.intro hfe True.intro
  clear hfe
  go_enter Tryz.func38, Tryz.ntmps38
  go_wp2_with fail
  go_at_call 61
  refine hf.mono ?_
  rintro e w1 ⟨rfl, r1, c1⟩
  clear hf
  have HA : Hid _ := And.intro (HX.out.2.2.1.next r1 c1) True.intro
  have f1 := HA.out.1.rd.c2
  clear r1 c1
  have hv := fixedS_ok (w.heap.size + 1 + 1) b off n cap (0 + 1) 4 xs w1 HA.out.1.rd (HX.out.2.2.2.1.below HA.out.1.bel) HX.out.2.2.2.2.1 HX.out.2.2.2.2.2.2.1 HX.out.2.2.2.2.2.1 (by have a0 := HX.out.2.2.2.2.2.2.2.2.1; omega) (by decide) (by decide)
  obtain ⟨V, hVe⟩ : ∃ V, V = vals (sub xs (0 + 1) 4) := ⟨_, rfl⟩
  rw [← hVe] at hv
  have HVE : Hid _ := And.intro hVe True.intro
  clear hVe
  go_wp2_with fail
  go_at_call 61
  refine hv.mono ?_
  rintro e w2 ⟨rfl, r2, c2⟩
  clear hv f1
  have HC : Hid _ := And.intro (ph_new (HA.out.1.next r2 c2) V) True.intro
  clear r2 c2
  have hc := fixedS_ok (w.heap.size + 1 + 1) b off n cap 5 1 xs _ (show srB _ _ _ ((5 : Nat) : Int) _ from HC.out.1.ps.rd) (HX.out.2.2.2.1.below HC.out.1.ps.bel) HX.out.2.2.2.2.1 HX.out.2.2.2.2.2.2.1 HX.out.2.2.2.2.2.1 (by have a0 := HX.out.2.2.2.2.2.2.2.2.1; omega) (by decide) (by decide)
  rw [HX.out.2.2.2.2.2.2.2.2.2.1] at hc
  go_wp2_with fail
  go_at_call 61
  refine hc.mono ?_
  rintro e w3 ⟨rfl, r3, c3⟩
  clear hc
  have HE3 : Hid _ := And.intro (HC.out.1.next r3 c3) (Nat.le_trans HC.out.1.ps.bel.size c3.size)
  have f3 := HE3.out.1.ps.rd.c2
  clear r3 c3
  have ht := takeS_ok (w.heap.size + 1 + 1) b off n cap (5 + 1) L1 xs w3 HE3.out.1.ps.rd (HX.out.2.2.2.1.below HE3.out.1.ps.bel) HX.out.2.2.2.2.2.2.1 HX.out.2.2.2.2.2.1 (by have a0 := HX.out.2.2.2.2.2.2.2.2.2.2.2.1; omega)
  have b1 : decide ((8 : Int) < (L1 : Int)) = false := decide_eq_false (by have a0 := HX.out.2.2.2.2.2.2.2.2.2.2.1; omega)
  go_wp2_with fail
  go_at_call 62
  refine ht.mono ?_
  rintro e w4 ⟨vd, rfl, o4, r4, c4⟩
  clear ht f3
  obtain ⟨da, dp, ed⟩ := (row_of_owns o4).form
  rw [sub_len xs (5 + 1) L1 (by have a0 := HX.out.2.2.2.2.2.2.2.1; have a1 := HX.out.2.2.2.2.2.2.2.2.2.2.2.1; omega)] at ed
  subst ed
  have HT4 := HE3.out.1.next r4 c4
  have s2 : w4.cell? ⟨w2.heap.size, 2, none⟩ = some (.slice none 0 0) := (hdB_cells HT4.hd).2.2.1
  have s2f : w4.frozen? ⟨w2.heap.size, 2, none⟩ = false := (hdB_free HT4.hd).2.2.1
  have HF4 : Hid _ := And.intro (HT4.set2 (.slice da L1 dp)) (And.intro o4 c4.size)
  clear HT4 r4 c4 o4
  have hc := fixedS_ok (w.heap.size + 1 + 1) b off n cap (6 + L1) 1 xs _ (show srB _ _ _ ((6 + L1 : Nat) : Int) _ from HF4.out.1.ps.rd) (HX.out.2.2.2.1.below HF4.out.1.ps.bel) HX.out.2.2.2.2.1 HX.out.2.2.2.2.2.2.1 HX.out.2.2.2.2.2.1 (by have a0 := HX.out.2.2.2.2.2.2.2.2.2.2.2.2.1; omega) (by decide) (by decide)
  rw [HX.out.2.2.2.2.2.2.2.2.2.2.2.2.2.1] at hc
  go_wp2_with fail
  go_at_call 61
  refine hc.mono ?_
  rintro e w5 ⟨rfl, r5, c5⟩
  clear hc s2 s2f b1
  have HE5 : Hid _ := And.intro (HF4.out.1.next r5 c5) c5
  have f5 := HE5.out.1.ps.rd.c2
  clear r5 c5
  have b2 : decide ((8 : Int) < (L2 : Int)) = true := decide_eq_true (by have a0 := HX.out.2.2.2.2.2.2.2.2.2.2.2.2.2.2; omega)
  obtain ⟨zc0, zc1, zc2, zc3, zc4, zc5, zc6, zc7⟩ := hdB_cells HE5.out.1.ps.r0
  obtain ⟨zf0, zf1, zf2, zf3, zf4, zf5, zf6, zf7⟩ := hdB_free HE5.out.1.ps.r0
  obtain ⟨zn0, zn1, zn2, zn3, zn4, zn5, zn6, zn7⟩ := hdB_cells HE5.out.1.ps.r1
  have hfl := faultS_f (w.heap.size + 1 + 1) _ _ w5.drew HE5.out.1.ps.rd.drewX
  go_wp2_with fail
  go_region_with (go_at_call 63; refine hfl.mono ?_; rintro e wz ⟨rfl, hwz⟩; rw [hwz]; clear hwz wz)
  all_goals (go_wp2_with fail)
  all_goals (refine bodyPost_ret (v := .tuple #[.agg #[.int .i64 0, .int .i64 0, .slice none 0 0, .slice none 0 0, .slice none 0 0, .int .i64 0, .int .i64 0, .int .i64 0], .int .i64 0, .int .i64 3]) ?_ rfl ?_)
  all_goals first
    | exact results_row_tmp2 (t := 24) rfl _ _ w.heap.size _ (fr := (0, 0)) _ _ _ rfl rfl rfl HE5.out.1.ps.zendD.2 Tryz.underlying24 rfl infoHd
    | exact ⟨HE5.out.1.ps.zendD.1, Or.inl ⟨3, HX.out.1.trans HX.out.2.1, rfl⟩⟩
set_option maxRecDepth 20000 in
set_option maxHeartbeats 4000000 in
theorem peekS_l07 (b off n cap m : Nat) (xs : List Int) (w : World) (hl : Lies w b off n cap xs) (hB : Bytes xs) (hn : n ≤ 65536) (h1 : 1 ≤ n) (hm : m ≤ 8) (hF : ¬ vals (sub xs 0 1) < 128) (h6 : ¬ n < 6) (L1 : Nat) (hL1 : vals (sub xs 5 1) = (L1 : Int)) (h81 : ¬ 8 < L1) (hs1 : ¬ n < 6 + L1) (h7 : ¬ n < 7 + L1) (L2 : Nat) (hL2 : vals (sub xs (6 + L1) 1) = (L2 : Int)) (h82 : ¬ 8 < L2) (hs2 : n < 7 + L1 + L2) :
    Calls Tryz.prog 38 #[.slice (some ⟨b, off, none⟩) n cap, .int .i64 m] w fun e w' => PkPost xs m w e w' := by
  have hlen := hl.len
  have P0 := ps_new w (.slice (some ⟨b, off, none⟩) n cap)
  have hbg : b ≠ w.heap.size + 1 + 1 := by have := hl.lt; omega
  have hf := fixedS_ok (w.heap.size + 1 + 1) b off n cap 0 1 xs _ P0.rd (hl.below P0.bel) hB hbg hn (by omega) (by decide) (by decide)
  have eP := pk_long xs m (by omega) (by omega) hm hF
  have e : pkLong xs (vals (sub xs 0 1)) = .error 2 := pkLong_3 (by omega) (cid_ok xs 5 L1 (by omega) hL1 h81 (by omega)) (show pkCid xs (5 + 1 + L1) = _ by rw [show 5 + 1 + L1 = 6 + L1 from rfl]; exact cid_e3 xs (6 + L1) L2 (by omega) hL2 h82 (by omega))
  have d1 : decide (vals (sub xs 0 1) < 64) = false := decide_eq_false (by omega)
  have d1b : decide (vals (sub xs 0 1) < 128) = false := decide_eq_false hF
  have HX : Hid _ := And.intro eP (And.intro e (And.intro P0 (And.intro hl (And.intro hB (And.intro hn (And.intro hbg (And.intro hlen (And.intro h6 (And.intro hL1 (And.intro h81 (And.intro hs1 (And.intro h7 (And.intro hL2 (And.intro h82 hs2))))))))))))))
  clear eP e P0 hl hB hbg hlen hF hn h1 h6 hL1 h81 hs1 h7 hL2 h82 hs2
  obtain ⟨f, hfe⟩ : ∃ f, f = vals (sub xs 0 1) := ⟨_, rfl⟩
  rw [← hfe] at hf d1 d1b
  have HFE : Hid _ := And.intro hfe True.intro
  clear hfe
  go_enter Tryz.func38, Tryz.ntmps38
  go_wp2_with fail
  go_at_call 61
  refine hf.mono ?_
  rintro e w1 ⟨rfl, r1, c1⟩
  clear hf
  have HA : Hid _ := And.intro (HX.out.2.2.1.next r1 c1) True.intro
  have f1 := HA.out.1.rd.c2
  clear r1 c1
  have hv := fixedS_ok (w.heap.size + 1 + 1) b off n cap (0 + 1) 4 xs w1 HA.out.1.rd (HX.out.2.2.2.1.below HA.out.1.bel) HX.out.2.2.2.2.1 HX.out.2.2.2.2.2.2.1 HX.out.2.2.2.2.2.1 (by have a0 := HX.out.2.2.2.2.2.2.2.2.1; omega) (by decide) (by decide)
  obtain ⟨V, hVe⟩ : ∃ V, V = vals (sub xs (0 + 1) 4) := ⟨_, rfl⟩
  rw [← hVe] at hv
  have HVE : Hid _ := And.intro hVe True.intro
  clear hVe
  go_wp2_with fail
  go_at_call 61
  refine hv.mono ?_
  rintro e w2 ⟨rfl, r2, c2⟩
  clear hv f1
  have HC : Hid _ := And.intro (ph_new (HA.out.1.next r2 c2) V) True.intro
  clear r2 c2
  have hc := fixedS_ok (w.heap.size + 1 + 1) b off n cap 5 1 xs _ (show srB _ _ _ ((5 : Nat) : Int) _ from HC.out.1.ps.rd) (HX.out.2.2.2.1.below HC.out.1.ps.bel) HX.out.2.2.2.2.1 HX.out.2.2.2.2.2.2.1 HX.out.2.2.2.2.2.1 (by have a0 := HX.out.2.2.2.2.2.2.2.2.1; omega) (by decide) (by decide)
  rw [HX.out.2.2.2.2.2.2.2.2.2.1] at hc
  go_wp2_with fail
  go_at_call 61
  refine hc.mono ?_
  rintro e w3 ⟨rfl, r3, c3⟩
  clear hc
  have HE3 : Hid _ := And.intro (HC.out.1.next r3 c3) (Nat.le_trans HC.out.1.ps.bel.size c3.size)
  have f3 := HE3.out.1.ps.rd.c2
  clear r3 c3
  have ht := takeS_ok (w.heap.size + 1 + 1) b off n cap (5 + 1) L1 xs w3 HE3.out.1.ps.rd (HX.out.2.2.2.1.below HE3.out.1.ps.bel) HX.out.2.2.2.2.2.2.1 HX.out.2.2.2.2.2.1 (by have a0 := HX.out.2.2.2.2.2.2.2.2.2.2.2.1; omega)
  have b1 : decide ((8 : Int) < (L1 : Int)) = false := decide_eq_false (by have a0 := HX.out.2.2.2.2.2.2.2.2.2.2.1; omega)
  go_wp2_with fail
  go_at_call 62
  refine ht.mono ?_
  rintro e w4 ⟨vd, rfl, o4, r4, c4⟩
  clear ht f3
  obtain ⟨da, dp, ed⟩ := (row_of_owns o4).form
  rw [sub_len xs (5 + 1) L1 (by have a0 := HX.out.2.2.2.2.2.2.2.1; have a1 := HX.out.2.2.2.2.2.2.2.2.2.2.2.1; omega)] at ed
  subst ed
  have HT4 := HE3.out.1.next r4 c4
  have s2 : w4.cell? ⟨w2.heap.size, 2, none⟩ = some (.slice none 0 0) := (hdB_cells HT4.hd).2.2.1
  have s2f : w4.frozen? ⟨w2.heap.size, 2, none⟩ = false := (hdB_free HT4.hd).2.2.1
  have HF4 : Hid _ := And.intro (HT4.set2 (.slice da L1 dp)) (And.intro o4 c4.size)
  clear HT4 r4 c4 o4
  have hc := fixedS_ok (w.heap.size + 1 + 1) b off n cap (6 + L1) 1 xs _ (show srB _ _ _ ((6 + L1 : Nat) : Int) _ from HF4.out.1.ps.rd) (HX.out.2.2.2.1.below HF4.out.1.ps.bel) HX.out.2.2.2.2.1 HX.out.2.2.2.2.2.2.1 HX.out.2.2.2.2.2.1 (by have a0 := HX.out.2.2.2.2.2.2.2.2.2.2.2.2.1; omega) (by decide) (by decide)
  rw [HX.out.2.2.2.2.2.2.2.2.2.2.2.2.2.1] at hc
  go_wp2_with fail
  go_at_call 61
  refine hc.mono ?_
  rintro e w5 ⟨rfl, r5, c5⟩
  clear hc s2 s2f b1
  have HE5 : Hid _ := And.intro (HF4.out.1.next r5 c5) c5
  have f5 := HE5.out.1.ps.rd.c2
  clear r5 c5
  have ht := takeS_no (w.heap.size + 1 + 1) (some ⟨b, off, none⟩) n cap ((6 + L1 + 1 : Nat) : Int) L2 false w5 HE5.out.1.ps.rd ⟨by omega, by have a0 := HX.out.2.2.2.2.2.2.2.2.2.2.2.2.1; omega⟩ (by have a0 := HX.out.2.2.2.2.2.1; omega) (Or.inr (by have a0 := HX.out.2.2.2.2.2.2.2.2.2.2.2.2.2.2.2; omega))
  have b2 : decide ((8 : Int) < (L2 : Int)) = false := decide_eq_false (by have a0 := HX.out.2.2.2.2.2.2.2.2.2.2.2.2.2.2.1; omega)
  go_wp2_with fail
  go_at_call 62
  refine ht.mono ?_
  rintro e w6 ⟨q, rfl, hq, o6, r6, c6⟩
  clear ht f5 o6 hq
  have HT6 := HE5.out.1.next r6 c6
  have s3 : w6.cell? ⟨w2.heap.size, 3, none⟩ = some (.slice none 0 0) := (hdB_cells HT6.hd).2.2.2.1
  have s3f : w6.frozen? ⟨w2.heap.size, 3, none⟩ = false := (hdB_free HT6.hd).2.2.2.1
  have HF6 : Hid _ := And.intro (HT6.set3 (.slice (some ⟨q, 0, none⟩) 0 0)) True.intro
  have f6 := HF6.out.1.ps.rd.c2
  clear HT6 r6 c6
  obtain ⟨zc0, zc1, zc2, zc3, zc4, zc5, zc6, zc7⟩ := hdB_cells HF6.out.1.ps.r0
  obtain ⟨zf0, zf1, zf2, zf3, zf4, zf5, zf6, zf7⟩ := hdB_free HF6.out.1.ps.r0
  obtain ⟨zn0, zn1, zn2, zn3, zn4, zn5, zn6, zn7⟩ := hdB_cells HF6.out.1.ps.r1
  go_wp2_with fail
  refine bodyPost_ret (v := .tuple #[.agg #[.int .i64 0, .int .i64 0, .slice none 0 0, .slice none 0 0, .slice none 0 0, .int .i64 0, .int .i64 0, .int .i64 0], .int .i64 0, .int .i64 2]) ?_ rfl ?_
  · exact results_row_tmp2 (t := 24) rfl _ _ w.heap.size _ (fr := (0, 0)) _ _ _ rfl rfl rfl HF6.out.1.ps.zend.2 Tryz.underlying24 rfl infoHd
  · exact ⟨HF6.out.1.ps.zend.1, Or.inl ⟨2, HX.out.1.trans HX.out.2.1, rfl⟩⟩
end Go.Proofs.YtoalillggafnpaaGreatDoor

namespace Go.Proofs.YtoalillggafnpaaGreatDoor
open Go.RowKit
set_option linter.unusedVariables false

set_option maxRecDepth 20000 in
set_option maxHeartbeats 4000000 in
theorem peekS_l08 (b off n cap m : Nat) (xs : List Int) (w : World) (hl : Lies w b off n cap xs) (hB : Bytes xs) (hn : n ≤ 65536) (h1 : 1 ≤ n) (hm : m ≤ 8) (hF : ¬ vals (sub xs 0 1) < 128) (h6 : ¬ n < 6) (L1 : Nat) (hL1 : vals (sub xs 5 1) = (L1 : Int)) (h81 : ¬ 8 < L1) (hs1 : ¬ n < 6 + L1) (h7 : ¬ n < 7 + L1) (L2 : Nat) (hL2 : vals (sub xs (6 + L1) 1) = (L2 : Int)) (h82 : ¬ 8 < L2) (hs2 : ¬ n < 7 + L1 + L2) (hv0 : vals (sub xs 1 4) = 0) (h128 : vals (sub xs 0 1) ≠ 128) :
    Calls Tryz.prog 38 #[.slice (some ⟨b, off, none⟩) n cap, .int .i64 m] w fun e w' => PkPost xs m w e w' := by
  have hlen := hl.len
  have P0 := ps_new w (.slice (some ⟨b, off, none⟩) n cap)
  have hbg : b ≠ w.heap.size + 1 + 1 := by have := hl.lt; omega
  have hf := fixedS_ok (w.heap.size + 1 + 1) b off n cap 0 1 xs _ P0.rd (hl.below P0.bel) hB hbg hn (by omega) (by decide) (by decide)
  have eP := pk_long xs m (by omega) (by omega) hm hF
  have e : pkLong xs (vals (sub xs 0 1)) = .error 3 := by rw [pkLong_4 (by omega) (cid_ok xs 5 L1 (by omega) hL1 h81 (by omega)) (show pkCid xs (5 + 1 + L1) = .ok _ by rw [show 5 + 1 + L1 = 6 + L1 from rfl]; exact cid_ok xs (6 + L1) L2 (by omega) hL2 h82 (by omega))]; unfold pkTail; rw [if_pos hv0, if_pos h128]
  have d1 : decide (vals (sub xs 0 1) < 64) = false := decide_eq_false (by omega)
  have d1b : decide (vals (sub xs 0 1) < 128) = false := decide_eq_false hF
  have HX : Hid _ := And.intro eP (And.intro e (And.intro P0 (And.intro hl (And.intro hB (And.intro hn (And.intro hbg (And.intro hlen (And.intro h6 (And.intro hL1 (And.intro h81 (And.intro hs1 (And.intro h7 (And.intro hL2 (And.intro h82 (And.intro hs2 (And.intro hv0 h128))))))))))))))))
  clear eP e P0 hl hB hbg hlen hF hn h1 h6 hL1 h81 hs1 h7 hL2 h82 hs2 hv0 h128
  obtain ⟨f, hfe⟩ : ∃ f, f = vals (sub xs 0 1) := ⟨_, rfl⟩
  rw [← hfe] at hf d1 d1b
  have HFE : Hid _ := And.intro hfe True.intro
  clear hfe
  go_enter Tryz.func38, Tryz.ntmps38
  go_wp2_with fail
  go_at_call 61
  refine hf.mono ?_
  rintro e w1 ⟨rfl, r1, c1⟩
  clear hf
  have HA : Hid _ := And.intro (HX.out.2.2.1.next r1 c1) True.intro
  have f1 := HA.out.1.rd.c2
  clear r1 c1
  have hv := fixedS_ok (w.heap.size + 1 + 1) b off n cap (0 + 1) 4 xs w1 HA.out.1.rd (HX.out.2.2.2.1.below HA.out.1.bel) HX.out.2.2.2.2.1 HX.out.2.2.2.2.2.2.1 HX.out.2.2.2.2.2.1 (by have a0 := HX.out.2.2.2.2.2.2.2.2.1; omega) (by decide) (by decide)
  obtain ⟨V, hVe⟩ : ∃ V, V = vals (sub xs (0 + 1) 4) := ⟨_, rfl⟩
  rw [← hVe] at hv
  have HVE : Hid _ := And.intro hVe True.intro
  clear hVe
  go_wp2_with fail
  go_at_call 61
  refine hv.mono ?_
  rintro e w2 ⟨rfl, r2, c2⟩
  clear hv f1
  have HC : Hid _ := And.intro (ph_new (HA.out.1.next r2 c2) V) True.intro
  clear r2 c2
  have hc := fixedS_ok (w.heap.size + 1 + 1) b off n cap 5 1 xs _ (show srB _ _ _ ((5 : Nat) : Int) _ from HC.out.1.ps.rd) (HX.out.2.2.2.1.below HC.out.1.ps.bel) HX.out.2.2.2.2.1 HX.out.2.2.2.2.2.2.1 HX.out.2.2.2.2.2.1 (by have a0 := HX.out.2.2.2.2.2.2.2.2.1; omega) (by decide) (by decide)
  rw [HX.out.2.2.2.2.2.2.2.2.2.1] at hc
  go_wp2_with fail
  go_at_call 61
  refine hc.mono ?_
  rintro e w3 ⟨rfl, r3, c3⟩
  clear hc
  have HE3 : Hid _ := And.intro (HC.out.1.next r3 c3) (Nat.le_trans HC.out.1.ps.bel.size c3.size)
  have f3 := HE3.out.1.ps.rd.c2
  clear r3 c3
  have ht := takeS_ok (w.heap.size + 1 + 1) b off n cap (5 + 1) L1 xs w3 HE3.out.1.ps.rd (HX.out.2.2.2.1.below HE3.out.1.ps.bel) HX.out.2.2.2.2.2.2.1 HX.out.2.2.2.2.2.1 (by have a0 := HX.out.2.2.2.2.2.2.2.2.2.2.2.1; omega)
  have b1 : decide ((8 : Int) < (L1 : Int)) = false := decide_eq_false (by have a0 := HX.out.2.2.2.2.2.2.2.2.2.2.1; omega)
  go_wp2_with fail
  go_at_call 62
  refine ht.mono ?_
  rintro e w4 ⟨vd, rfl, o4, r4, c4⟩
  clear ht f3
  obtain ⟨da, dp, ed⟩ := (row_of_owns o4).form
  rw [sub_len xs (5 + 1) L1 (by have a0 := HX.out.2.2.2.2.2.2.2.1; have a1 := HX.out.2.2.2.2.2.2.2.2.2.2.2.1; omega)] at ed
  subst ed
  have HT4 := HE3.out.1.next r4 c4
  have s2 : w4.cell? ⟨w2.heap.size, 2, none⟩ = some (.slice none 0 0) := (hdB_cells HT4.hd).2.2.1
  have s2f : w4.frozen? ⟨w2.heap.size, 2, none⟩ = false := (hdB_free HT4.hd).2.2.1
  have HF4 : Hid _ := And.intro (HT4.set2 (.slice da L1 dp)) (And.intro o4 c4.size)
  clear HT4 r4 c4 o4
  have hc := fixedS_ok (w.heap.size + 1 + 1) b off n cap (6 + L1) 1 xs _ (show srB _ _ _ ((6 + L1 : Nat) : Int) _ from HF4.out.1.ps.rd) (HX.out.2.2.2.1.below HF4.out.1.ps.bel) HX.out.2.2.2.2.1 HX.out.2.2.2.2.2.2.1 HX.out.2.2.2.2.2.1 (by have a0 := HX.out.2.2.2.2.2.2.2.2.2.2.2.2.1; omega) (by decide) (by decide)
  rw [HX.out.2.2.2.2.2.2.2.2.2.2.2.2.2.1] at hc
  go_wp2_with fail
  go_at_call 61
  refine hc.mono ?_
  rintro e w5 ⟨rfl, r5, c5⟩
  clear hc s2 s2f b1
  have HE5 : Hid _ := And.intro (HF4.out.1.next r5 c5) c5
  have f5 := HE5.out.1.ps.rd.c2
  clear r5 c5
  have ht := takeS_ok (w.heap.size + 1 + 1) b off n cap (6 + L1 + 1) L2 xs w5 HE5.out.1.ps.rd (HX.out.2.2.2.1.below HE5.out.1.ps.bel) HX.out.2.2.2.2.2.2.1 HX.out.2.2.2.2.2.1 (by have a0 := HX.out.2.2.2.2.2.2.2.2.2.2.2.2.2.2.2.1; omega)
  have b2 : decide ((8 : Int) < (L2 : Int)) = false := decide_eq_false (by have a0 := HX.out.2.2.2.2.2.2.2.2.2.2.2.2.2.2.1; omega)
  go_wp2_with fail
  go_at_call 62
  refine ht.mono ?_
  rintro e w6 ⟨vs, rfl, o6, r6, c6⟩
  clear ht f5
  obtain ⟨sa, sp, es⟩ := (row_of_owns o6).form
  rw [sub_len xs (6 + L1 + 1) L2 (by have a0 := HX.out.2.2.2.2.2.2.2.1; have a1 := HX.out.2.2.2.2.2.2.2.2.2.2.2.2.2.2.2.1; omega)] at es
  subst es
  have HT6 := HE5.out.1.next r6 c6
  have s3 : w6.cell? ⟨w2.heap.size, 3, none⟩ = some (.slice none 0 0) := (hdB_cells HT6.hd).2.2.2.1
  have s3f : w6.frozen? ⟨w2.heap.size, 3, none⟩ = false := (hdB_free HT6.hd).2.2.2.1
  have hbl : w2.heap.size < w3.heap.size := (Array.getElem?_eq_some_iff.1 HE3.out.1.hd).1
  have hgl := HE3.out.1.ps.rd.lt
  have hs45 : w4.heap.size ≤ w5.heap.size := by have h := HE5.out.2.size; rw [sizeS] at h; exact h
  have hs34 : w3.heap.size ≤ w4.heap.size := HF4.out.2.2
  have cZ : Chg (SG (w.heap.size + 1 + 1) w2.heap.size) w4 (w6.setCell ⟨w2.heap.size, 3, none⟩ (.slice sa L2 sp)) := ((((Chg.refl (SG (w.heap.size + 1 + 1) w2.heap.size) w4).setP 2 (.slice da L1 dp)).trans HE5.out.2.toG).trans c6.toG).setP 3 (.slice sa L2 sp)
  have od := cZ.ownsG HF4.out.2.1 hgl hbl
  have os : (w6.setCell ⟨w2.heap.size, 3, none⟩ (.slice sa L2 sp)).ownsRow w5.heap.size 5 1 (.slice sa L2 sp) L2 ((sub xs (6 + L1 + 1) L2).map (Value.int .u8)) := owns_set o6 (by omega)
  have HO : Hid _ := And.intro od (And.intro os (And.intro (apart_of HF4.out.2.1 o6 hs45) (And.intro hgl (And.intro hbl (And.intro (Nat.le_trans hs34 hs45) (by have := HE3.out.2; omega : w.heap.size < w3.heap.size))))))
  have HF6 : Hid _ := And.intro (HT6.set3 (.slice sa L2 sp)) True.intro
  have f6 := HF6.out.1.ps.rd.c2
  have v6 := (hdB_cells HF6.out.1.hd).2.1
  clear HT6 r6 c6 o6 cZ od os hgl hbl hs45 hs34
  have z0 : (V == 0) = true := by rw [HVE.out.1]; rw [show vals (sub xs (0 + 1) 4) = 0 from HX.out.2.2.2.2.2.2.2.2.2.2.2.2.2.2.2.2.1]; rfl
  have z1 : (f != 128) = true := by rw [HFE.out.1]; have h := HX.out.2.2.2.2.2.2.2.2.2.2.2.2.2.2.2.2.2; simpa using h
  have m1 := (hdB_cells HF6.out.1.hd).1
  have mf1 := (hdB_free HF6.out.1.hd).1
  have HM1 : Hid _ := And.intro (HF6.out.1.set0 (.int .i64 5)) ((Chg.refl (SG (w.heap.size + 1 + 1) w2.heap.size) (w6.setCell ⟨w2.heap.size, 3, none⟩ (.slice sa L2 sp))).setP 0 (.int .i64 5))
  have fm1 := HM1.out.1.ps.rd.c2
  have vm1 := (hdB_cells HM1.out.1.hd).2.1
  obtain ⟨zc0, zc1, zc2, zc3, zc4, zc5, zc6, zc7⟩ := hdB_cells HM1.out.1.ps.r0
  obtain ⟨zf0, zf1, zf2, zf3, zf4, zf5, zf6, zf7⟩ := hdB_free HM1.out.1.ps.r0
  obtain ⟨zn0, zn1, zn2, zn3, zn4, zn5, zn6, zn7⟩ := hdB_cells HM1.out.1.ps.r1
  go_wp2_with fail
  refine bodyPost_ret (v := .tuple #[.agg #[.int .i64 0, .int .i64 0, .slice none 0 0, .slice none 0 0, .slice none 0 0, .int .i64 0, .int .i64 0, .int .i64 0], .int .i64 0, .int .i64 3]) ?_ rfl ?_
  · exact results_row_tmp2 (t := 24) rfl _ _ w.heap.size _ (fr := (0, 0)) _ _ _ rfl rfl rfl HM1.out.1.ps.zend.2 Tryz.underlying24 rfl infoHd
  · exact ⟨HM1.out.1.ps.zend.1, Or.inl ⟨3, HX.out.1.trans HX.out.2.1, rfl⟩⟩
set_option maxRecDepth 20000 in
set_option maxHeartbeats 4000000 in
theorem peekS_l09 (b off n cap m : Nat) (xs : List Int) (w : World) (hl : Lies w b off n cap xs) (hB : Bytes xs) (hn : n ≤ 65536) (h1 : 1 ≤ n) (hm : m ≤ 8) (hF : ¬ vals (sub xs 0 1) < 128) (h6 : ¬ n < 6) (L1 : Nat) (hL1 : vals (sub xs 5 1) = (L1 : Int)) (h81 : ¬ 8 < L1) (hs1 : ¬ n < 6 + L1) (h7 : ¬ n < 7 + L1) (L2 : Nat) (hL2 : vals (sub xs (6 + L1) 1) = (L2 : Int)) (h82 : ¬ 8 < L2) (hs2 : ¬ n < 7 + L1 + L2) (hv0 : vals (sub xs 1 4) = 0) (h128 : vals (sub xs 0 1) = 128) (hpv : pkVer xs (6 + L1 + 1 + L2) = .error 3) :
    Calls Tryz.prog 38 #[.slice (some ⟨b, off, none⟩) n cap, .int .i64 m] w fun e w' => PkPost xs m w e w' := by
  have hlen := hl.len
  have P0 := ps_new w (.slice (some ⟨b, off, none⟩) n cap)
  have hbg : b ≠ w.heap.size + 1 + 1 := by have := hl.lt; omega
  have hf := fixedS_ok (w.heap.size + 1 + 1) b off n cap 0 1 xs _ P0.rd (hl.below P0.bel) hB hbg hn (by omega) (by decide) (by decide)
  have eP := pk_long xs m (by omega) (by omega) hm hF
  have e : pkLong xs (vals (sub xs 0 1)) = .error 3 := by rw [pkLong_4 (by omega) (cid_ok xs 5 L1 (by omega) hL1 h81 (by omega)) (show pkCid xs (5 + 1 + L1) = .ok _ by rw [show 5 + 1 + L1 = 6 + L1 from rfl]; exact cid_ok xs (6 + L1) L2 (by omega) hL2 h82 (by omega))]; unfold pkTail; rw [if_pos hv0, if_neg (by omega), hpv]
  have d1 : decide (vals (sub xs 0 1) < 64) = false := decide_eq_false (by omega)
  have d1b : decide (vals (sub xs 0 1) < 128) = false := decide_eq_false hF
  have HX : Hid _ := And.intro eP (And.intro e (And.intro P0 (And.intro hl (And.intro hB (And.intro hn (And.intro hbg (And.intro hlen (And.intro h6 (And.intro hL1 (And.intro h81 (And.intro hs1 (And.intro h7 (And.intro hL2 (And.intro h82 (And.intro hs2 (And.intro hv0 (And.intro h128 hpv)))))))))))))))))
  clear eP e P0 hl hB hbg hlen hF hn h1 h6 hL1 h81 hs1 h7 hL2 h82 hs2 hv0 h128 hpv
  obtain ⟨f, hfe⟩ : ∃ f, f = vals (sub xs 0 1) := ⟨_, rfl⟩
  rw [← hfe] at hf d1 d1b
  have HFE : Hid _ := And.intro hfe True.intro
  clear hfe
  go_enter Tryz.func38, Tryz.ntmps38
  go_wp2_with fail
  go_at_call 61
  refine hf.mono ?_
  rintro e w1 ⟨rfl, r1, c1⟩
  clear hf
  have HA : Hid _ := And.intro (HX.out.2.2.1.next r1 c1) True.intro
  have f1 := HA.out.1.rd.c2
  clear r1 c1
  have hv := fixedS_ok (w.heap.size + 1 + 1) b off n cap (0 + 1) 4 xs w1 HA.out.1.rd (HX.out.2.2.2.1.below HA.out.1.bel) HX.out.2.2.2.2.1 HX.out.2.2.2.2.2.2.1 HX.out.2.2.2.2.2.1 (by have a0 := HX.out.2.2.2.2.2.2.2.2.1; omega) (by decide) (by decide)
  obtain ⟨V, hVe⟩ : ∃ V, V = vals (sub xs (0 + 1) 4) := ⟨_, rfl⟩
  rw [← hVe] at hv
  have HVE : Hid _ := And.intro hVe True.intro
  clear hVe
  go_wp2_with fail
  go_at_call 61
  refine hv.mono ?_
  rintro e w2 ⟨rfl, r2, c2⟩
  clear hv f1
  have HC : Hid _ := And.intro (ph_new (HA.out.1.next r2 c2) V) True.intro
  clear r2 c2
  have hc := fixedS_ok (w.heap.size + 1 + 1) b off n cap 5 1 xs _ (show srB _ _ _ ((5 : Nat) : Int) _ from HC.out.1.ps.rd) (HX.out.2.2.2.1.below HC.out.1.ps.bel) HX.out.2.2.2.2.1 HX.out.2.2.2.2.2.2.1 HX.out.2.2.2.2.2.1 (by have a0 := HX.out.2.2.2.2.2.2.2.2.1; omega) (by decide) (by decide)
  rw [HX.out.2.2.2.2.2.2.2.2.2.1] at hc
  go_wp2_with fail
  go_at_call 61
  refine hc.mono ?_
  rintro e w3 ⟨rfl, r3, c3⟩
  clear hc
  have HE3 : Hid _ := And.intro (HC.out.1.next r3 c3) (Nat.le_trans HC.out.1.ps.bel.size c3.size)
  have f3 := HE3.out.1.ps.rd.c2
  clear r3 c3
  have ht := takeS_ok (w.heap.size + 1 + 1) b off n cap (5 + 1) L1 xs w3 HE3.out.1.ps.rd (HX.out.2.2.2.1.below HE3.out.1.ps.bel) HX.out.2.2.2.2.2.2.1 HX.out.2.2.2.2.2.1 (by have a0 := HX.out.2.2.2.2.2.2.2.2.2.2.2.1; omega)
  have b1 : decide ((8 : Int) < (L1 : Int)) = false := decide_eq_false (by have a0 := HX.out.2.2.2.2.2.2.2.2.2.2.1; omega)
  go_wp2_with fail
  go_at_call 62
  refine ht.mono ?_
  rintro e w4 ⟨vd, rfl, o4, r4, c4⟩
  clear ht f3
  obtain ⟨da, dp, ed⟩ := (row_of_owns o4).form
  rw [sub_len xs (5 + 1) L1 (by have a0 := HX.out.2.2.2.2.2.2.2.1; have a1 := HX.out.2.2.2.2.2.2.2.2.2.2.2.1; omega)] at ed
  subst ed
  have HT4 := HE3.out.1.next r4 c4
  have s2 : w4.cell? ⟨w2.heap.size, 2, none⟩ = some (.slice none 0 0) := (hdB_cells HT4.hd).2.2.1
  have s2f : w4.frozen? ⟨w2.heap.size, 2, none⟩ = false := (hdB_free HT4.hd).2.2.1
  have HF4 : Hid _ := And.intro (HT4.set2 (.slice da L1 dp)) (And.intro o4 c4.size)
  clear HT4 r4 c4 o4
  have hc := fixedS_ok (w.heap.size + 1 + 1) b off n cap (6 + L1) 1 xs _ (show srB _ _ _ ((6 + L1 : Nat) : Int) _ from HF4.out.1.ps.rd) (HX.out.2.2.2.1.below HF4.out.1.ps.bel) HX.out.2.2.2.2.1 HX.out.2.2.2.2.2.2.1 HX.out.2.2.2.2.2.1 (by have a0 := HX.out.2.2.2.2.2.2.2.2.2.2.2.2.1; omega) (by decide) (by decide)
  rw [HX.out.2.2.2.2.2.2.2.2.2.2.2.2.2.1] at hc
  go_wp2_with fail
  go_at_call 61
  refine hc.mono ?_
  rintro e w5 ⟨rfl, r5, c5⟩
  clear hc s2 s2f b1
  have HE5 : Hid _ := And.intro (HF4.out.1.next r5 c5) c5
  have f5 := HE5.out.1.ps.rd.c2
  clear r5 c5
  have ht := takeS_ok (w.heap.size + 1 + 1) b off n cap (6 + L1 + 1) L2 xs w5 HE5.out.1.ps.rd (HX.out.2.2.2.1.below HE5.out.1.ps.bel) HX.out.2.2.2.2.2.2.1 HX.out.2.2.2.2.2.1 (by have a0 := HX.out.2.2.2.2.2.2.2.2.2.2.2.2.2.2.2.1; omega)
  have b2 : decide ((8 : Int) < (L2 : Int)) = false := decide_eq_false (by have a0 := HX.out.2.2.2.2.2.2.2.2.2.2.2.2.2.2.1; omega)
  go_wp2_with fail
  go_at_call 62
  refine ht.mono ?_
  rintro e w6 ⟨vs, rfl, o6, r6, c6⟩
  clear ht f5
  obtain ⟨sa, sp, es⟩ := (row_of_owns o6).form
  rw [sub_len xs (6 + L1 + 1) L2 (by have a0 := HX.out.2.2.2.2.2.2.2.1; have a1 := HX.out.2.2.2.2.2.2.2.2.2.2.2.2.2.2.2.1; omega)] at es
  subst es
  have HT6 := HE5.out.1.next r6 c6
  have s3 : w6.cell? ⟨w2.heap.size, 3, none⟩ = some (.slice none 0 0) := (hdB_cells HT6.hd).2.2.2.1
  have s3f : w6.frozen? ⟨w2.heap.size, 3, none⟩ = false := (hdB_free HT6.hd).2.2.2.1
  have hbl : w2.heap.size < w3.heap.size := (Array.getElem?_eq_some_iff.1 HE3.out.1.hd).1
  have hgl := HE3.out.1.ps.rd.lt
  have hs45 : w4.heap.size ≤ w5.heap.size := by have h := HE5.out.2.size; rw [sizeS] at h; exact h
  have hs34 : w3.heap.size ≤ w4.heap.size := HF4.out.2.2
  have cZ : Chg (SG (w.heap.size + 1 + 1) w2.heap.size) w4 (w6.setCell ⟨w2.heap.size, 3, none⟩ (.slice sa L2 sp)) := ((((Chg.refl (SG (w.heap.size + 1 + 1) w2.heap.size) w4).setP 2 (.slice da L1 dp)).trans HE5.out.2.toG).trans c6.toG).setP 3 (.slice sa L2 sp)
  have od := cZ.ownsG HF4.out.2.1 hgl hbl
  have os : (w6.setCell ⟨w2.heap.size, 3, none⟩ (.slice sa L2 sp)).ownsRow w5.heap.size 5 1 (.slice sa L2 sp) L2 ((sub xs (6 + L1 + 1) L2).map (Value.int .u8)) := owns_set o6 (by omega)
  have HO : Hid _ := And.intro od (And.intro os (And.intro (apart_of HF4.out.2.1 o6 hs45) (And.intro hgl (And.intro hbl (And.intro (Nat.le_trans hs34 hs45) (by have := HE3.out.2; omega : w.heap.size < w3.heap.size))))))
  have HF6 : Hid _ := And.intro (HT6.set3 (.slice sa L2 sp)) True.intro
  have f6 := HF6.out.1.ps.rd.c2
  have v6 := (hdB_cells HF6.out.1.hd).2.1
  clear HT6 r6 c6 o6 cZ od os hgl hbl hs45 hs34
  have z0 : (V == 0) = true := by rw [HVE.out.1]; rw [show vals (sub xs (0 + 1) 4) = 0 from HX.out.2.2.2.2.2.2.2.2.2.2.2.2.2.2.2.2.1]; rfl
  have z1 : (f != 128) = false := by rw [HFE.out.1, HX.out.2.2.2.2.2.2.2.2.2.2.2.2.2.2.2.2.2.1]; rfl
  have m1 := (hdB_cells HF6.out.1.hd).1
  have mf1 := (hdB_free HF6.out.1.hd).1
  have HM1 : Hid _ := And.intro (HF6.out.1.set0 (.int .i64 5)) ((Chg.refl (SG (w.heap.size + 1 + 1) w2.heap.size) (w6.setCell ⟨w2.heap.size, 3, none⟩ (.slice sa L2 sp))).setP 0 (.int .i64 5))
  have fm1 := HM1.out.1.ps.rd.c2
  have vm1 := (hdB_cells HM1.out.1.hd).2.1
  have hvs := versS (w.heap.size + 1 + 1) b off n cap (6 + L1 + 1 + L2) xs _ (show srB _ _ _ ((6 + L1 + 1 + L2 : Nat) : Int) _ from HM1.out.1.ps.rd) (HX.out.2.2.2.1.below HM1.out.1.ps.bel) HX.out.2.2.2.2.1 HX.out.2.2.2.2.2.2.1 HX.out.2.2.2.2.2.1 (by have a0 := HX.out.2.2.2.2.2.2.2.2.2.2.2.2.2.2.2.1; omega)
  rw [show versOut xs (6 + L1 + 1 + L2) = [] by unfold versOut; rw [HX.out.2.2.2.2.2.2.2.2.2.2.2.2.2.2.2.2.2.2]] at hvs
  go_wp2_with fail
  go_at_call 64
  refine hvs.mono ?_
  rintro e w7 ⟨c7, ⟨pp, r7⟩, vv, rfl, o7⟩
  obtain ⟨va, vp, ev⟩ := (row_of_owns (k := .i64) o7).form
  subst ev
  have HV7 : Hid _ := And.intro (HM1.out.1.next r7 c7) (HM1.out.2.trans c7.toG)
  clear hvs r7 c7 o7
  obtain ⟨zc0, zc1, zc2, zc3, zc4, zc5, zc6, zc7⟩ := hdB_cells HV7.out.1.ps.r0
  obtain ⟨zf0, zf1, zf2, zf3, zf4, zf5, zf6, zf7⟩ := hdB_free HV7.out.1.ps.r0
  obtain ⟨zn0, zn1, zn2, zn3, zn4, zn5, zn6, zn7⟩ := hdB_cells HV7.out.1.ps.r1
  go_wp2_with fail
  refine bodyPost_ret (v := .tuple #[.agg #[.int .i64 0, .int .i64 0, .slice none 0 0, .slice none 0 0, .slice none 0 0, .int .i64 0, .int .i64 0, .int .i64 0], .int .i64 0, .int .i64 3]) ?_ rfl ?_
  · exact results_row_tmp2 (t := 24) rfl _ _ w.heap.size _ (fr := (0, 0)) _ _ _ rfl rfl rfl HV7.out.1.ps.zend.2 Tryz.underlying24 rfl infoHd
  · exact ⟨HV7.out.1.ps.zend.1, Or.inl ⟨3, HX.out.1.trans HX.out.2.1, rfl⟩⟩
set_option maxRecDepth 20000 in
set_option maxHeartbeats 4000000 in
theorem peekS_l10 (b off n cap m : Nat) (xs : List Int) (w : World) (hl : Lies w b off n cap xs) (hB : Bytes xs) (hn : n ≤ 65536) (h1 : 1 ≤ n) (hm : m ≤ 8) (hF : ¬ vals (sub xs 0 1) < 128) (h6 : ¬ n < 6) (L1 : Nat) (hL1 : vals (sub xs 5 1) = (L1 : Int)) (h81 : ¬ 8 < L1) (hs1 : ¬ n < 6 + L1) (h7 : ¬ n < 7 + L1) (L2 : Nat) (hL2 : vals (sub xs (6 + L1) 1) = (L2 : Int)) (h82 : ¬ 8 < L2) (hs2 : ¬ n < 7 + L1 + L2) (hv0 : vals (sub xs 1 4) = 0) (h128 : vals (sub xs 0 1) = 128) (L : List Int) (hpv : pkVer xs (6 + L1 + 1 + L2) = .ok L) (hLn : 1 ≤ L.length) :
    Calls Tryz.prog 38 #[.slice (some ⟨b, off, none⟩) n cap, .int .i64 m] w fun e w' => PkPost xs m w e w' := by
  have hlen := hl.len
  have P0 := ps_new w (.slice (some ⟨b, off, none⟩) n cap)
  have hbg : b ≠ w.heap.size + 1 + 1 := by have := hl.lt; omega
  have hf := fixedS_ok (w.heap.size + 1 + 1) b off n cap 0 1 xs _ P0.rd (hl.below P0.bel) hB hbg hn (by omega) (by decide) (by decide)
  have eP := pk_long xs m (by omega) (by omega) hm hF
  have e : pkLong xs (vals (sub xs 0 1)) = .ok ⟨5, vals (sub xs 1 4), sub xs (5 + 1) L1, sub xs (6 + L1 + 1) L2, [], L, 0, xs.length⟩ := by rw [pkLong_4 (by omega) (cid_ok xs 5 L1 (by omega) hL1 h81 (by omega)) (show pkCid xs (5 + 1 + L1) = .ok _ by rw [show 5 + 1 + L1 = 6 + L1 from rfl]; exact cid_ok xs (6 + L1) L2 (by omega) hL2 h82 (by omega))]; unfold pkTail; rw [if_pos hv0, if_neg (by omega), hpv]
  have d1 : decide (vals (sub xs 0 1) < 64) = false := decide_eq_false (by omega)
  have d1b : decide (vals (sub xs 0 1) < 128) = false := decide_eq_false hF
  have HX : Hid _ := And.intro eP (And.intro e (And.intro P0 (And.intro hl (And.intro hB (And.intro hn (And.intro hbg (And.intro hlen (And.intro h6 (And.intro hL1 (And.intro h81 (And.intro hs1 (And.intro h7 (And.intro hL2 (And.intro h82 (And.intro hs2 (And.intro hv0 (And.intro h128 (And.intro hpv hLn))))))))))))))))))
  clear eP e P0 hl hB hbg hlen hF hn h1 h6 hL1 h81 hs1 h7 hL2 h82 hs2 hv0 h128 hpv hLn
  obtain ⟨f, hfe⟩ : ∃ f, f = vals (sub xs 0 1) := ⟨_, rfl⟩
  rw [← hfe] at hf d1 d1b
  have HFE : Hid _ := And.intro hfe True.intro
  clear hfe
  go_enter Tryz.func38, Tryz.ntmps38
  go_wp2_with fail
  go_at_call 61
  refine hf.mono ?_
  rintro e w1 ⟨rfl, r1, c1⟩
  clear hf
  have HA : Hid _ := And.intro (HX.out.2.2.1.next r1 c1) True.intro
  have f1 := HA.out.1.rd.c2
  clear r1 c1
  have hv := fixedS_ok (w.heap.size + 1 + 1) b off n cap (0 + 1) 4 xs w1 HA.out.1.rd (HX.out.2.2.2.1.below HA.out.1.bel) HX.out.2.2.2.2.1 HX.out.2.2.2.2.2.2.1 HX.out.2.2.2.2.2.1 (by have a0 := HX.out.2.2.2.2.2.2.2.2.1; omega) (by decide) (by decide)
  obtain ⟨V, hVe⟩ : ∃ V, V = vals (sub xs (0 + 1) 4) := ⟨_, rfl⟩
  rw [← hVe] at hv
  have HVE : Hid _ := And.intro hVe True.intro
  clear hVe
  go_wp2_with fail
  go_at_call 61
  refine hv.mono ?_
  rintro e w2 ⟨rfl, r2, c2⟩
  clear hv f1
  have HC : Hid _ := And.intro (ph_new (HA.out.1.next r2 c2) V) True.intro
  clear r2 c2
  have hc := fixedS_ok (w.heap.size + 1 + 1) b off n cap 5 1 xs _ (show srB _ _ _ ((5 : Nat) : Int) _ from HC.out.1.ps.rd) (HX.out.2.2.2.1.below HC.out.1.ps.bel) HX.out.2.2.2.2.1 HX.out.2.2.2.2.2.2.1 HX.out.2.2.2.2.2.1 (by have a0 := HX.out.2.2.2.2.2.2.2.2.1; omega) (by decide) (by decide)
  rw [HX.out.2.2.2.2.2.2.2.2.2.1] at hc
  go_wp2_with fail
  go_at_call 61
  refine hc.mono ?_
  rintro e w3 ⟨rfl, r3, c3⟩
  clear hc
  have HE3 : Hid _ := And.intro (HC.out.1.next r3 c3) (Nat.le_trans HC.out.1.ps.bel.size c3.size)
  have f3 := HE3.out.1.ps.rd.c2
  clear r3 c3
  have ht := takeS_ok (w.heap.size + 1 + 1) b off n cap (5 + 1) L1 xs w3 HE3.out.1.ps.rd (HX.out.2.2.2.1.below HE3.out.1.ps.bel) HX.out.2.2.2.2.2.2.1 HX.out.2.2.2.2.2.1 (by have a0 := HX.out.2.2.2.2.2.2.2.2.2.2.2.1; omega)
  have b1 : decide ((8 : Int) < (L1 : Int)) = false := decide_eq_false (by have a0 := HX.out.2.2.2.2.2.2.2.2.2.2.1; omega)
  go_wp2_with fail
  go_at_call 62
  refine ht.mono ?_
  rintro e w4 ⟨vd, rfl, o4, r4, c4⟩
  clear ht f3
  obtain ⟨da, dp, ed⟩ := (row_of_owns o4).form
  rw [sub_len xs (5 + 1) L1 (by have a0 := HX.out.2.2.2.2.2.2.2.1; have a1 := HX.out.2.2.2.2.2.2.2.2.2.2.2.1; omega)] at ed
  subst ed
  have HT4 := HE3.out.1.next r4 c4
  have s2 : w4.cell? ⟨w2.heap.size, 2, none⟩ = some (.slice none 0 0) := (hdB_cells HT4.hd).2.2.1
  have s2f : w4.frozen? ⟨w2.heap.size, 2, none⟩ = false := (hdB_free HT4.hd).2.2.1
  have HF4 : Hid _ := And.intro (HT4.set2 (.slice da L1 dp)) (And.intro o4 c4.size)
  clear HT4 r4 c4 o4
  have hc := fixedS_ok (w.heap.size + 1 + 1) b off n cap (6 + L1) 1 xs _ (show srB _ _ _ ((6 + L1 : Nat) : Int) _ from HF4.out.1.ps.rd) (HX.out.2.2.2.1.below HF4.out.1.ps.bel) HX.out.2.2.2.2.1 HX.out.2.2.2.2.2.2.1 HX.out.2.2.2.2.2.1 (by have a0 := HX.out.2.2.2.2.2.2.2.2.2.2.2.2.1; omega) (by decide) (by decide)
  rw [HX.out.2.2.2.2.2.2.2.2.2.2.2.2.2.1] at hc
  go_wp2_with fail
  go_at_call 61
  refine hc.mono ?_
  rintro e w5 ⟨rfl, r5, c5⟩
  clear hc s2 s2f b1
  have HE5 : Hid _ := And.intro (HF4.out.1.next r5 c5) c5
  have f5 := HE5.out.1.ps.rd.c2
  clear r5 c5
  have ht := takeS_ok (w.heap.size + 1 + 1) b off n cap (6 + L1 + 1) L2 xs w5 HE5.out.1.ps.rd (HX.out.2.2.2.1.below HE5.out.1.ps.bel) HX.out.2.2.2.2.2.2.1 HX.out.2.2.2.2.2.1 (by have a0 := HX.out.2.2.2.2.2.2.2.2.2.2.2.2.2.2.2.1; omega)
  have b2 : decide ((8 : Int) < (L2 : Int)) = false := decide_eq_false (by have a0 := HX.out.2.2.2.2.2.2.2.2.2.2.2.2.2.2.1; omega)
  go_wp2_with fail
  go_at_call 62
  refine ht.mono ?_
  rintro e w6 ⟨vs, rfl, o6, r6, c6⟩
  clear ht f5
  obtain ⟨sa, sp, es⟩ := (row_of_owns o6).form
  rw [sub_len xs (6 + L1 + 1) L2 (by have a0 := HX.out.2.2.2.2.2.2.2.1; have a1 := HX.out.2.2.2.2.2.2.2.2.2.2.2.2.2.2.2.1; omega)] at es
  subst es
  have HT6 := HE5.out.1.next r6 c6
  have s3 : w6.cell? ⟨w2.heap.size, 3, none⟩ = some (.slice none 0 0) := (hdB_cells HT6.hd).2.2.2.1
  have s3f : w6.frozen? ⟨w2.heap.size, 3, none⟩ = false := (hdB_free HT6.hd).2.2.2.1
  have hbl : w2.heap.size < w3.heap.size := (Array.getElem?_eq_some_iff.1 HE3.out.1.hd).1
  have hgl := HE3.out.1.ps.rd.lt
  have hs45 : w4.heap.size ≤ w5.heap.size := by have h := HE5.out.2.size; rw [sizeS] at h; exact h
  have hs34 : w3.heap.size ≤ w4.heap.size := HF4.out.2.2
  have cZ : Chg (SG (w.heap.size + 1 + 1) w2.heap.size) w4 (w6.setCell ⟨w2.heap.size, 3, none⟩ (.slice sa L2 sp)) := ((((Chg.refl (SG (w.heap.size + 1 + 1) w2.heap.size) w4).setP 2 (.slice da L1 dp)).trans HE5.out.2.toG).trans c6.toG).setP 3 (.slice sa L2 sp)
  have od := cZ.ownsG HF4.out.2.1 hgl hbl
  have os : (w6.setCell ⟨w2.heap.size, 3, none⟩ (.slice sa L2 sp)).ownsRow w5.heap.size 5 1 (.slice sa L2 sp) L2 ((sub xs (6 + L1 + 1) L2).map (Value.int .u8)) := owns_set o6 (by omega)
  have HO : Hid _ := And.intro od (And.intro os (And.intro (apart_of HF4.out.2.1 o6 hs45) (And.intro hgl (And.intro hbl (And.intro (Nat.le_trans hs34 hs45) (by have := HE3.out.2; omega : w.heap.size < w3.heap.size))))))
  have HF6 : Hid _ := And.intro (HT6.set3 (.slice sa L2 sp)) True.intro
  have f6 := HF6.out.1.ps.rd.c2
  have v6 := (hdB_cells HF6.out.1.hd).2.1
  clear HT6 r6 c6 o6 cZ od os hgl hbl hs45 hs34
  have z0 : (V == 0) = true := by rw [HVE.out.1]; rw [show vals (sub xs (0 + 1) 4) = 0 from HX.out.2.2.2.2.2.2.2.2.2.2.2.2.2.2.2.2.1]; rfl
  have z1 : (f != 128) = false := by rw [HFE.out.1, HX.out.2.2.2.2.2.2.2.2.2.2.2.2.2.2.2.2.2.1]; rfl
  have m1 := (hdB_cells HF6.out.1.hd).1
  have mf1 := (hdB_free HF6.out.1.hd).1
  have HM1 : Hid _ := And.intro (HF6.out.1.set0 (.int .i64 5)) ((Chg.refl (SG (w.heap.size + 1 + 1) w2.heap.size) (w6.setCell ⟨w2.heap.size, 3, none⟩ (.slice sa L2 sp))).setP 0 (.int .i64 5))
  have fm1 := HM1.out.1.ps.rd.c2
  have vm1 := (hdB_cells HM1.out.1.hd).2.1
  have hvs := versS (w.heap.size + 1 + 1) b off n cap (6 + L1 + 1 + L2) xs _ (show srB _ _ _ ((6 + L1 + 1 + L2 : Nat) : Int) _ from HM1.out.1.ps.rd) (HX.out.2.2.2.1.below HM1.out.1.ps.bel) HX.out.2.2.2.2.1 HX.out.2.2.2.2.2.2.1 HX.out.2.2.2.2.2.1 (by have a0 := HX.out.2.2.2.2.2.2.2.2.2.2.2.2.2.2.2.1; omega)
  rw [show versOut xs (6 + L1 + 1 + L2) = L by unfold versOut; rw [HX.out.2.2.2.2.2.2.2.2.2.2.2.2.2.2.2.2.2.2.1]] at hvs
  obtain ⟨nL, enL⟩ : ∃ nL, nL = L.length := ⟨_, rfl⟩
  have hLn := HX.out.2.2.2.2.2.2.2.2.2.2.2.2.2.2.2.2.2.2.2
  rw [← enL] at hvs hLn
  have z2 : ¬ nL = 0 := by omega
  clear hLn
  go_wp2_with fail
  go_at_call 64
  refine hvs.mono ?_
  rintro e w7 ⟨c7, ⟨pp, r7⟩, vv, rfl, o7⟩
  obtain ⟨va, vp, ev⟩ := (row_of_owns (k := .i64) o7).form
  rw [← enL] at ev
  subst ev
  have HV7 : Hid _ := And.intro (HM1.out.1.next r7 c7) (HM1.out.2.trans c7.toG)
  clear hvs r7 c7 o7 enL
  obtain ⟨zc0, zc1, zc2, zc3, zc4, zc5, zc6, zc7⟩ := hdB_cells HV7.out.1.ps.r0
  obtain ⟨zf0, zf1, zf2, zf3, zf4, zf5, zf6, zf7⟩ := hdB_free HV7.out.1.ps.r0
  obtain ⟨g0, g1, g2, g3, g4, g5, g6, g7⟩ := hdB_cells HV7.out.1.hd
  obtain ⟨n0, n1, n2, n3, n4, n5⟩ := HV7.out.1.ne
  have hE8 : (st8 w7 w.heap.size (.int .i64 5) (.int .i64 V) (.slice da L1 dp) (.slice sa L2 sp) (.slice none 0 0) (.int .i64 0) (.int .i64 0) (.int .i64 0)).heap[w.heap.size]? = _ := st8_heap (a0 := .int .i64 5) (a1 := .int .i64 V) (a2 := .slice da L1 dp) (a3 := .slice sa L2 sp) (a4 := .slice none 0 0) (a5 := .int .i64 0) (a6 := .int .i64 0) (a7 := .int .i64 0) HV7.out.1.ps.r0
  have hB8 : Below w.heap.size w (st8 w7 w.heap.size (.int .i64 5) (.int .i64 V) (.slice da L1 dp) (.slice sa L2 sp) (.slice none 0 0) (.int .i64 0) (.int .i64 0) (.int .i64 0)) := st8_below (a0 := .int .i64 5) (a1 := .int .i64 V) (a2 := .slice da L1 dp) (a3 := .slice sa L2 sp) (a4 := .slice none 0 0) (a5 := .int .i64 0) (a6 := .int .i64 0) (a7 := .int .i64 0) HV7.out.1.ps.bel (Nat.le_refl w.heap.size)
  have hw3 : w.heap.size < w3.heap.size := HO.out.2.2.2.2.2.2
  have hw5 : w3.heap.size ≤ w5.heap.size := HO.out.2.2.2.2.2.1
  have od1 := HV7.out.2.ownsG HO.out.1 HO.out.2.2.2.1 HO.out.2.2.2.2.1
  have os1 := HV7.out.2.ownsG HO.out.2.1 (Nat.lt_of_lt_of_le HO.out.2.2.2.1 hw5) (Nat.lt_of_lt_of_le HO.out.2.2.2.2.1 hw5)
  have od2 : (st8 w7 w.heap.size (.int .i64 5) (.int .i64 V) (.slice da L1 dp) (.slice sa L2 sp) (.slice none 0 0) (.int .i64 0) (.int .i64 0) (.int .i64 0)).ownsRow w3.heap.size 5 1 (.slice da L1 dp) L1 _ := st8_owns (a0 := .int .i64 5) (a1 := .int .i64 V) (a2 := .slice da L1 dp) (a3 := .slice sa L2 sp) (a4 := .slice none 0 0) (a5 := .int .i64 0) (a6 := .int .i64 0) (a7 := .int .i64 0) od1 hw3
  have os2 : (st8 w7 w.heap.size (.int .i64 5) (.int .i64 V) (.slice da L1 dp) (.slice sa L2 sp) (.slice none 0 0) (.int .i64 0) (.int .i64 0) (.int .i64 0)).ownsRow w5.heap.size 5 1 (.slice sa L2 sp) L2 _ := st8_owns (a0 := .int .i64 5) (a1 := .int .i64 V) (a2 := .slice da L1 dp) (a3 := .slice sa L2 sp) (a4 := .slice none 0 0) (a5 := .int .i64 0) (a6 := .int .i64 0) (a7 := .int .i64 0) os1 (Nat.lt_of_lt_of_le hw3 hw5)
  have hd2 : (st8 w7 w.heap.size (.int .i64 5) (.int .i64 V) (.slice da L1 dp) (.slice sa L2 sp) (.slice none 0 0) (.int .i64 0) (.int .i64 0) (.int .i64 0)).ownsRow w.heap.size 5 1 (.slice da L1 dp) (sub xs (5 + 1) L1).length ((sub xs (5 + 1) L1).map (Value.int .u8)) := by rw [sub_len xs (5 + 1) L1 (by have a0 := HX.out.2.2.2.2.2.2.2.1; have a1 := HX.out.2.2.2.2.2.2.2.2.2.2.2.1; omega)]; exact (owns_mono od2 (Nat.le_of_lt hw3))
  have hs2 : (st8 w7 w.heap.size (.int .i64 5) (.int .i64 V) (.slice da L1 dp) (.slice sa L2 sp) (.slice none 0 0) (.int .i64 0) (.int .i64 0) (.int .i64 0)).ownsRow w.heap.size 5 1 (.slice sa L2 sp) (sub xs (6 + L1 + 1) L2).length ((sub xs (6 + L1 + 1) L2).map (Value.int .u8)) := by rw [sub_len xs (6 + L1 + 1) L2 (by have a0 := HX.out.2.2.2.2.2.2.2.1; have a1 := HX.out.2.2.2.2.2.2.2.2.2.2.2.2.2.2.2.1; omega)]; exact (owns_mono os2 (by omega))
  have HQ : Hid _ := And.intro hE8 (And.intro hB8 (And.intro hd2 (And.intro hs2 True.intro)))
  clear hE8 hB8 hw3 hw5 od1 os1 od2 os2 hd2 hs2
  go_wp2_with fail
  refine bodyPost_ret (v := .tuple #[.agg #[.int .i64 5, .int .i64 V, .slice da L1 dp, .slice sa L2 sp, .slice none 0 0, .int .i64 0, .int .i64 0, .int .i64 0], .int .i64 n, .int .i64 0]) ?_ rfl ?_
  · exact results_row_tmp2 (t := 24) rfl _ _ w.heap.size _ (fr := (0, 0)) _ _ _ rfl rfl rfl HQ.out.1 Tryz.underlying24 rfl infoHd
  · refine ⟨HQ.out.2.1, Or.inr ⟨_, .slice da L1 dp, .slice sa L2 sp, .slice none 0 0, HX.out.1.trans HX.out.2.1, by rw [HX.out.2.2.2.2.2.2.2.1, HVE.out.1], ⟨HQ.out.2.2.1, HQ.out.2.2.2.1, World.ownsRow_nil _ _ _ _, HO.out.2.2.1, apart_nil _, apart_nil _⟩⟩⟩
set_option maxRecDepth 20000 in
set_option maxHeartbeats 4000000 in
theorem peekS_l11 (b off n cap m : Nat) (xs : List Int) (w : World) (hl : Lies w b off n cap xs) (hB : Bytes xs) (hn : n ≤ 65536) (h1 : 1 ≤ n) (hm : m ≤ 8) (hF : ¬ vals (sub xs 0 1) < 128) (h6 : ¬ n < 6) (L1 : Nat) (hL1 : vals (sub xs 5 1) = (L1 : Int)) (h81 : ¬ 8 < L1) (hs1 : ¬ n < 6 + L1) (h7 : ¬ n < 7 + L1) (L2 : Nat) (hL2 : vals (sub xs (6 + L1) 1) = (L2 : Int)) (h82 : ¬ 8 < L2) (hs2 : ¬ n < 7 + L1 + L2) (hv0 : ¬ vals (sub xs 1 4) = 0) (h192 : vals (sub xs 0 1) < 192) :
    Calls Tryz.prog 38 #[.slice (some ⟨b, off, none⟩) n cap, .int .i64 m] w fun e w' => PkPost xs m w e w' := by
  have hlen := hl.len
  have P0 := ps_new w (.slice (some ⟨b, off, none⟩) n cap)
  have hbg : b ≠ w.heap.size + 1 + 1 := by have := hl.lt; omega
  have hf := fixedS_ok (w.heap.size + 1 + 1) b off n cap 0 1 xs _ P0.rd (hl.below P0.bel) hB hbg hn (by omega) (by decide) (by decide)
  have eP := pk_long xs m (by omega) (by omega) hm hF
  have e : pkLong xs (vals (sub xs 0 1)) = .error 3 := by rw [pkLong_4 (by omega) (cid_ok xs 5 L1 (by omega) hL1 h81 (by omega)) (show pkCid xs (5 + 1 + L1) = .ok _ by rw [show 5 + 1 + L1 = 6 + L1 from rfl]; exact cid_ok xs (6 + L1) L2 (by omega) hL2 h82 (by omega))]; unfold pkTail; have hq : lform (vals (sub xs 0 1)) = 0 := (by unfold lform; rw [if_pos h192]); rw [if_neg hv0, hq, if_neg (by decide), if_neg (by decide), if_neg (by decide)]
  have d1 : decide (vals (sub xs 0 1) < 64) = false := decide_eq_false (by omega)
  have d1b : decide (vals (sub xs 0 1) < 128) = false := decide_eq_false hF
  have HX : Hid _ := And.intro eP (And.intro e (And.intro P0 (And.intro hl (And.intro hB (And.intro hn (And.intro hbg (And.intro hlen (And.intro h6 (And.intro hL1 (And.intro h81 (And.intro hs1 (And.intro h7 (And.intro hL2 (And.intro h82 (And.intro hs2 (And.intro hv0 h192))))))))))))))))
  clear eP e P0 hl hB hbg hlen hF hn h1 h6 hL1 h81 hs1 h7 hL2 h82 hs2 hv0 h192
  obtain ⟨f, hfe⟩ : ∃ f, f = vals (sub xs 0 1) := ⟨_, rfl⟩
  rw [← hfe] at hf d1 d1b
  have HFE : Hid _ := And.intro hfe True.intro
  clear hfe
  go_enter Tryz.func38, Tryz.ntmps38
  go_wp2_with fail
  go_at_call 61
  refine hf.mono ?_
  rintro e w1 ⟨rfl, r1, c1⟩
  clear hf
  have HA : Hid _ := And.intro (HX.out.2.2.1.next r1 c1) True.intro
  have f1 := HA.out.1.rd.c2
  clear r1 c1
  have hv := fixedS_ok (w.heap.size + 1 + 1) b off n cap (0 + 1) 4 xs w1 HA.out.1.rd (HX.out.2.2.2.1.below HA.out.1.bel) HX.out.2.2.2.2.1 HX.out.2.2.2.2.2.2.1 HX.out.2.2.2.2.2.1 (by have a0 := HX.out.2.2.2.2.2.2.2.2.1; omega) (by decide) (by decide)
  obtain ⟨V, hVe⟩ : ∃ V, V = vals (sub xs (0 + 1) 4) := ⟨_, rfl⟩
  rw [← hVe] at hv
  have HVE : Hid _ := And.intro hVe True.intro
  clear hVe
  go_wp2_with fail
  go_at_call 61
  refine hv.mono ?_
  rintro e w2 ⟨rfl, r2, c2⟩
  clear hv f1
  have HC : Hid _ := And.intro (ph_new (HA.out.1.next r2 c2) V) True.intro
  clear r2 c2
  have hc := fixedS_ok (w.heap.size + 1 + 1) b off n cap 5 1 xs _ (show srB _ _ _ ((5 : Nat) : Int) _ from HC.out.1.ps.rd) (HX.out.2.2.2.1.below HC.out.1.ps.bel) HX.out.2.2.2.2.1 HX.out.2.2.2.2.2.2.1 HX.out.2.2.2.2.2.1 (by have a0 := HX.out.2.2.2.2.2.2.2.2.1; omega) (by decide) (by decide)
  rw [HX.out.2.2.2.2.2.2.2.2.2.1] at hc
  go_wp2_with fail
  go_at_call 61
  refine hc.mono ?_
  rintro e w3 ⟨rfl, r3, c3⟩
  clear hc
  have HE3 : Hid _ := And.intro (HC.out.1.next r3 c3) (Nat.le_trans HC.out.1.ps.bel.size c3.size)
  have f3 := HE3.out.1.ps.rd.c2
  clear r3 c3
  have ht := takeS_ok (w.heap.size + 1 + 1) b off n cap (5 + 1) L1 xs w3 HE3.out.1.ps.rd (HX.out.2.2.2.1.below HE3.out.1.ps.bel) HX.out.2.2.2.2.2.2.1 HX.out.2.2.2.2.2.1 (by have a0 := HX.out.2.2.2.2.2.2.2.2.2.2.2.1; omega)
  have b1 : decide ((8 : Int) < (L1 : Int)) = false := decide_eq_false (by have a0 := HX.out.2.2.2.2.2.2.2.2.2.2.1; omega)
  go_wp2_with fail
  go_at_call 62
  refine ht.mono ?_
  rintro e w4 ⟨vd, rfl, o4, r4, c4⟩
  clear ht f3
  obtain ⟨da, dp, ed⟩ := (row_of_owns o4).form
  rw [sub_len xs (5 + 1) L1 (by have a0 := HX.out.2.2.2.2.2.2.2.1; have a1 := HX.out.2.2.2.2.2.2.2.2.2.2.2.1; omega)] at ed
  subst ed
  have HT4 := HE3.out.1.next r4 c4
  have s2 : w4.cell? ⟨w2.heap.size, 2, none⟩ = some (.slice none 0 0) := (hdB_cells HT4.hd).2.2.1
  have s2f : w4.frozen? ⟨w2.heap.size, 2, none⟩ = false := (hdB_free HT4.hd).2.2.1
  have HF4 : Hid _ := And.intro (HT4.set2 (.slice da L1 dp)) (And.intro o4 c4.size)
  clear HT4 r4 c4 o4
  have hc := fixedS_ok (w.heap.size + 1 + 1) b off n cap (6 + L1) 1 xs _ (show srB _ _ _ ((6 + L1 : Nat) : Int) _ from HF4.out.1.ps.rd) (HX.out.2.2.2.1.below HF4.out.1.ps.bel) HX.out.2.2.2.2.1 HX.out.2.2.2.2.2.2.1 HX.out.2.2.2.2.2.1 (by have a0 := HX.out.2.2.2.2.2.2.2.2.2.2.2.2.1; omega) (by decide) (by decide)
  rw [HX.out.2.2.2.2.2.2.2.2.2.2.2.2.2.1] at hc
  go_wp2_with fail
  go_at_call 61
  refine hc.mono ?_
  rintro e w5 ⟨rfl, r5, c5⟩
  clear hc s2 s2f b1
  have HE5 : Hid _ := And.intro (HF4.out.1.next r5 c5) c5
  have f5 := HE5.out.1.ps.rd.c2
  clear r5 c5
  have ht := takeS_ok (w.heap.size + 1 + 1) b off n cap (6 + L1 + 1) L2 xs w5 HE5.out.1.ps.rd (HX.out.2.2.2.1.below HE5.out.1.ps.bel) HX.out.2.2.2.2.2.2.1 HX.out.2.2.2.2.2.1 (by have a0 := HX.out.2.2.2.2.2.2.2.2.2.2.2.2.2.2.2.1; omega)
  have b2 : decide ((8 : Int) < (L2 : Int)) = false := decide_eq_false (by have a0 := HX.out.2.2.2.2.2.2.2.2.2.2.2.2.2.2.1; omega)
  go_wp2_with fail
  go_at_call 62
  refine ht.mono ?_
  rintro e w6 ⟨vs, rfl, o6, r6, c6⟩
  clear ht f5
  obtain ⟨sa, sp, es⟩ := (row_of_owns o6).form
  rw [sub_len xs (6 + L1 + 1) L2 (by have a0 := HX.out.2.2.2.2.2.2.2.1; have a1 := HX.out.2.2.2.2.2.2.2.2.2.2.2.2.2.2.2.1; omega)] at es
  subst es
  have HT6 := HE5.out.1.next r6 c6
  have s3 : w6.cell? ⟨w2.heap.size, 3, none⟩ = some (.slice none 0 0) := (hdB_cells HT6.hd).2.2.2.1
  have s3f : w6.frozen? ⟨w2.heap.size, 3, none⟩ = false := (hdB_free HT6.hd).2.2.2.1
  have hbl : w2.heap.size < w3.heap.size := (Array.getElem?_eq_some_iff.1 HE3.out.1.hd).1
  have hgl := HE3.out.1.ps.rd.lt
  have hs45 : w4.heap.size ≤ w5.heap.size := by have h := HE5.out.2.size; rw [sizeS] at h; exact h
  have hs34 : w3.heap.size ≤ w4.heap.size := HF4.out.2.2
  have cZ : Chg (SG (w.heap.size + 1 + 1) w2.heap.size) w4 (w6.setCell ⟨w2.heap.size, 3, none⟩ (.slice sa L2 sp)) := ((((Chg.refl (SG (w.heap.size + 1 + 1) w2.heap.size) w4).setP 2 (.slice da L1 dp)).trans HE5.out.2.toG).trans c6.toG).setP 3 (.slice sa L2 sp)
  have od := cZ.ownsG HF4.out.2.1 hgl hbl
  have os : (w6.setCell ⟨w2.heap.size, 3, none⟩ (.slice sa L2 sp)).ownsRow w5.heap.size 5 1 (.slice sa L2 sp) L2 ((sub xs (6 + L1 + 1) L2).map (Value.int .u8)) := owns_set o6 (by omega)
  have HO : Hid _ := And.intro od (And.intro os (And.intro (apart_of HF4.out.2.1 o6 hs45) (And.intro hgl (And.intro hbl (And.intro (Nat.le_trans hs34 hs45) (by have := HE3.out.2; omega : w.heap.size < w3.heap.size))))))
  have HF6 : Hid _ := And.intro (HT6.set3 (.slice sa L2 sp)) True.intro
  have f6 := HF6.out.1.ps.rd.c2
  have v6 := (hdB_cells HF6.out.1.hd).2.1
  clear HT6 r6 c6 o6 cZ od os hgl hbl hs45 hs34
  have z0 : (V == 0) = false := by rw [HVE.out.1]; have h := HX.out.2.2.2.2.2.2.2.2.2.2.2.2.2.2.2.2.1; simpa using h
  have z1 : decide (f < 192) = true := by rw [HFE.out.1]; exact decide_eq_true HX.out.2.2.2.2.2.2.2.2.2.2.2.2.2.2.2.2.2
  obtain ⟨zc0, zc1, zc2, zc3, zc4, zc5, zc6, zc7⟩ := hdB_cells HF6.out.1.ps.r0
  obtain ⟨zf0, zf1, zf2, zf3, zf4, zf5, zf6, zf7⟩ := hdB_free HF6.out.1.ps.r0
  obtain ⟨zn0, zn1, zn2, zn3, zn4, zn5, zn6, zn7⟩ := hdB_cells HF6.out.1.ps.r1
  go_wp2_with fail
  refine bodyPost_ret (v := .tuple #[.agg #[.int .i64 0, .int .i64 0, .slice none 0 0, .slice none 0 0, .slice none 0 0, .int .i64 0, .int .i64 0, .int .i64 0], .int .i64 0, .int .i64 3]) ?_ rfl ?_
  · exact results_row_tmp2 (t := 24) rfl _ _ w.heap.size _ (fr := (0, 0)) _ _ _ rfl rfl rfl HF6.out.1.ps.zend.2 Tryz.underlying24 rfl infoHd
  · exact ⟨HF6.out.1.ps.zend.1, Or.inl ⟨3, HX.out.1.trans HX.out.2.1, rfl⟩⟩
set_option maxRecDepth 20000 in
set_option maxHeartbeats 4000000 in
theorem peekS_l12 (b off n cap m : Nat) (xs : List Int) (w : World) (hl : Lies w b off n cap xs) (hB : Bytes xs) (hn : n ≤ 65536) (h1 : 1 ≤ n) (hm : m ≤ 8) (hF : ¬ vals (sub xs 0 1) < 128) (h6 : ¬ n < 6) (L1 : Nat) (hL1 : vals (sub xs 5 1) = (L1 : Int)) (h81 : ¬ 8 < L1) (hs1 : ¬ n < 6 + L1) (h7 : ¬ n < 7 + L1) (L2 : Nat) (hL2 : vals (sub xs (6 + L1) 1) = (L2 : Int)) (h82 : ¬ 8 < L2) (hs2 : ¬ n < 7 + L1 + L2) (hv0 : ¬ vals (sub xs 1 4) = 0) (hk1 : 208 ≤ vals (sub xs 0 1)) (hk2 : vals (sub xs 0 1) < 224) :
    Calls Tryz.prog 38 #[.slice (some ⟨b, off, none⟩) n cap, .int .i64 m] w fun e w' => PkPost xs m w e w' := by
  have hlen := hl.len
  have P0 := ps_new w (.slice (some ⟨b, off, none⟩) n cap)
  have hbg : b ≠ w.heap.size + 1 + 1 := by have := hl.lt; omega
  have hf := fixedS_ok (w.heap.size + 1 + 1) b off n cap 0 1 xs _ P0.rd (hl.below P0.bel) hB hbg hn (by omega) (by decide) (by decide)
  have eP := pk_long xs m (by omega) (by omega) hm hF
  have e : pkLong xs (vals (sub xs 0 1)) = .error 3 := by rw [pkLong_4 (by omega) (cid_ok xs 5 L1 (by omega) hL1 h81 (by omega)) (show pkCid xs (5 + 1 + L1) = .ok _ by rw [show 5 + 1 + L1 = 6 + L1 from rfl]; exact cid_ok xs (6 + L1) L2 (by omega) hL2 h82 (by omega))]; unfold pkTail; have hq : lform (vals (sub xs 0 1)) = 0 := (by unfold lform; rw [if_neg (by omega), if_neg (by omega), if_pos hk2]); rw [if_neg hv0, hq, if_neg (by decide), if_neg (by decide), if_neg (by decide)]
  have d1 : decide (vals (sub xs 0 1) < 64) = false := decide_eq_false (by omega)
  have d1b : decide (vals (sub xs 0 1) < 128) = false := decide_eq_false hF
  have HX : Hid _ := And.intro eP (And.intro e (And.intro P0 (And.intro hl (And.intro hB (And.intro hn (And.intro hbg (And.intro hlen (And.intro h6 (And.intro hL1 (And.intro h81 (And.intro hs1 (And.intro h7 (And.intro hL2 (And.intro h82 (And.intro hs2 (And.intro hv0 (And.intro hk1 hk2)))))))))))))))))
  clear eP e P0 hl hB hbg hlen hF hn h1 h6 hL1 h81 hs1 h7 hL2 h82 hs2 hv0 hk1 hk2
  obtain ⟨f, hfe⟩ : ∃ f, f = vals (sub xs 0 1) := ⟨_, rfl⟩
  rw [← hfe] at hf d1 d1b
  have HFE : Hid _ := And.intro hfe True.intro
  clear hfe
  go_enter Tryz.func38, Tryz.ntmps38
  go_wp2_with fail
  go_at_call 61
  refine hf.mono ?_
  rintro e w1 ⟨rfl, r1, c1⟩
  clear hf
  have HA : Hid _ := And.intro (HX.out.2.2.1.next r1 c1) True.intro
  have f1 := HA.out.1.rd.c2
  clear r1 c1
  have hv := fixedS_ok (w.heap.size + 1 + 1) b off n cap (0 + 1) 4 xs w1 HA.out.1.rd (HX.out.2.2.2.1.below HA.out.1.bel) HX.out.2.2.2.2.1 HX.out.2.2.2.2.2.2.1 HX.out.2.2.2.2.2.1 (by have a0 := HX.out.2.2.2.2.2.2.2.2.1; omega) (by decide) (by decide)
  obtain ⟨V, hVe⟩ : ∃ V, V = vals (sub xs (0 + 1) 4) := ⟨_, rfl⟩
  rw [← hVe] at hv
  have HVE : Hid _ := And.intro hVe True.intro
  clear hVe
  go_wp2_with fail
  go_at_call 61
  refine hv.mono ?_
  rintro e w2 ⟨rfl, r2, c2⟩
  clear hv f1
  have HC : Hid _ := And.intro (ph_new (HA.out.1.next r2 c2) V) True.intro
  clear r2 c2
  have hc := fixedS_ok (w.heap.size + 1 + 1) b off n cap 5 1 xs _ (show srB _ _ _ ((5 : Nat) : Int) _ from HC.out.1.ps.rd) (HX.out.2.2.2.1.below HC.out.1.ps.bel) HX.out.2.2.2.2.1 HX.out.2.2.2.2.2.2.1 HX.out.2.2.2.2.2.1 (by have a0 := HX.out.2.2.2.2.2.2.2.2.1; omega) (by decide) (by decide)
  rw [HX.out.2.2.2.2.2.2.2.2.2.1] at hc
  go_wp2_with fail
  go_at_call 61
  refine hc.mono ?_
  rintro e w3 ⟨rfl, r3, c3⟩
  clear hc
  have HE3 : Hid _ := And.intro (HC.out.1.next r3 c3) (Nat.le_trans HC.out.1.ps.bel.size c3.size)
  have f3 := HE3.out.1.ps.rd.c2
  clear r3 c3
  have ht := takeS_ok (w.heap.size + 1 + 1) b off n cap (5 + 1) L1 xs w3 HE3.out.1.ps.rd (HX.out.2.2.2.1.below HE3.out.1.ps.bel) HX.out.2.2.2.2.2.2.1 HX.out.2.2.2.2.2.1 (by have a0 := HX.out.2.2.2.2.2.2.2.2.2.2.2.1; omega)
  have b1 : decide ((8 : Int) < (L1 : Int)) = false := decide_eq_false (by have a0 := HX.out.2.2.2.2.2.2.2.2.2.2.1; omega)
  go_wp2_with fail
  go_at_call 62
  refine ht.mono ?_
  rintro e w4 ⟨vd, rfl, o4, r4, c4⟩
  clear ht f3
  obtain ⟨da, dp, ed⟩ := (row_of_owns o4).form
  rw [sub_len xs (5 + 1) L1 (by have a0 := HX.out.2.2.2.2.2.2.2.1; have a1 := HX.out.2.2.2.2.2.2.2.2.2.2.2.1; omega)] at ed
  subst ed
  have HT4 := HE3.out.1.next r4 c4
  have s2 : w4.cell? ⟨w2.heap.size, 2, none⟩ = some (.slice none 0 0) := (hdB_cells HT4.hd).2.2.1
  have s2f : w4.frozen? ⟨w2.heap.size, 2, none⟩ = false := (hdB_free HT4.hd).2.2.1
  have HF4 : Hid _ := And.intro (HT4.set2 (.slice da L1 dp)) (And.intro o4 c4.size)
  clear HT4 r4 c4 o4
  have hc := fixedS_ok (w.heap.size + 1 + 1) b off n cap (6 + L1) 1 xs _ (show srB _ _ _ ((6 + L1 : Nat) : Int) _ from HF4.out.1.ps.rd) (HX.out.2.2.2.1.below HF4.out.1.ps.bel) HX.out.2.2.2.2.1 HX.out.2.2.2.2.2.2.1 HX.out.2.2.2.2.2.1 (by have a0 := HX.out.2.2.2.2.2.2.2.2.2.2.2.2.1; omega) (by decide) (by decide)
  rw [HX.out.2.2.2.2.2.2.2.2.2.2.2.2.2.1] at hc
  go_wp2_with fail
  go_at_call 61
  refine hc.mono ?_
  rintro e w5 ⟨rfl, r5, c5⟩
  clear hc s2 s2f b1
  have HE5 : Hid _ := And.intro (HF4.out.1.next r5 c5) c5
  have f5 := HE5.out.1.ps.rd.c2
  clear r5 c5
  have ht := takeS_ok (w.heap.size + 1 + 1) b off n cap (6 + L1 + 1) L2 xs w5 HE5.out.1.ps.rd (HX.out.2.2.2.1.below HE5.out.1.ps.bel) HX.out.2.2.2.2.2.2.1 HX.out.2.2.2.2.2.1 (by have a0 := HX.out.2.2.2.2.2.2.2.2.2.2.2.2.2.2.2.1; omega)
  have b2 : decide ((8 : Int) < (L2 : Int)) = false := decide_eq_false (by have a0 := HX.out.2.2.2.2.2.2.2.2.2.2.2.2.2.2.1; omega)
  go_wp2_with fail
  go_at_call 62
  refine ht.mono ?_
  rintro e w6 ⟨vs, rfl, o6, r6, c6⟩
  clear ht f5
  obtain ⟨sa, sp, es⟩ := (row_of_owns o6).form
  rw [sub_len xs (6 + L1 + 1) L2 (by have a0 := HX.out.2.2.2.2.2.2.2.1; have a1 := HX.out.2.2.2.2.2.2.2.2.2.2.2.2.2.2.2.1; omega)] at es
  subst es
  have HT6 := HE5.out.1.next r6 c6
  have s3 : w6.cell? ⟨w2.heap.size, 3, none⟩ = some (.slice none 0 0) := (hdB_cells HT6.hd).2.2.2.1
  have s3f : w6.frozen? ⟨w2.heap.size, 3, none⟩ = false := (hdB_free HT6.hd).2.2.2.1
  have hbl : w2.heap.size < w3.heap.size := (Array.getElem?_eq_some_iff.1 HE3.out.1.hd).1
  have hgl := HE3.out.1.ps.rd.lt
  have hs45 : w4.heap.size ≤ w5.heap.size := by have h := HE5.out.2.size; rw [sizeS] at h; exact h
  have hs34 : w3.heap.size ≤ w4.heap.size := HF4.out.2.2
  have cZ : Chg (SG (w.heap.size + 1 + 1) w2.heap.size) w4 (w6.setCell ⟨w2.heap.size, 3, none⟩ (.slice sa L2 sp)) := ((((Chg.refl (SG (w.heap.size + 1 + 1) w2.heap.size) w4).setP 2 (.slice da L1 dp)).trans HE5.out.2.toG).trans c6.toG).setP 3 (.slice sa L2 sp)
  have od := cZ.ownsG HF4.out.2.1 hgl hbl
  have os : (w6.setCell ⟨w2.heap.size, 3, none⟩ (.slice sa L2 sp)).ownsRow w5.heap.size 5 1 (.slice sa L2 sp) L2 ((sub xs (6 + L1 + 1) L2).map (Value.int .u8)) := owns_set o6 (by omega)
  have HO : Hid _ := And.intro od (And.intro os (And.intro (apart_of HF4.out.2.1 o6 hs45) (And.intro hgl (And.intro hbl (And.intro (Nat.le_trans hs34 hs45) (by have := HE3.out.2; omega : w.heap.size < w3.heap.size))))))
  have HF6 : Hid _ := And.intro (HT6.set3 (.slice sa L2 sp)) True.intro
  have f6 := HF6.out.1.ps.rd.c2
  have v6 := (hdB_cells HF6.out.1.hd).2.1
  clear HT6 r6 c6 o6 cZ od os hgl hbl hs45 hs34
  have z0 : (V == 0) = false := by rw [HVE.out.1]; have h := HX.out.2.2.2.2.2.2.2.2.2.2.2.2.2.2.2.2.1; simpa using h
  have z1 : decide (f < 192) = false := by rw [HFE.out.1]; exact decide_eq_false (by have a0 := HX.out.2.2.2.2.2.2.2.2.2.2.2.2.2.2.2.2.2.1; omega)
  have zw : IntKind.i64.wrap (f - 192) = f - 192 := by rw [IntKind.wrap_i64, HFE.out.1]; have h1 := HX.out.2.2.2.2.2.2.2.2.2.2.2.2.2.2.2.2.2.1; have h2 := HX.out.2.2.2.2.2.2.2.2.2.2.2.2.2.2.2.2.2.2; omega
  have zq : (f - 192).tdiv 16 = 1 := by rw [HFE.out.1, Int.tdiv_eq_ediv_of_nonneg (by have h1 := HX.out.2.2.2.2.2.2.2.2.2.2.2.2.2.2.2.2.2.1; omega)]; have h1 := HX.out.2.2.2.2.2.2.2.2.2.2.2.2.2.2.2.2.2.1; have h2 := HX.out.2.2.2.2.2.2.2.2.2.2.2.2.2.2.2.2.2.2; omega
  obtain ⟨zc0, zc1, zc2, zc3, zc4, zc5, zc6, zc7⟩ := hdB_cells HF6.out.1.ps.r0
  obtain ⟨zf0, zf1, zf2, zf3, zf4, zf5, zf6, zf7⟩ := hdB_free HF6.out.1.ps.r0
  obtain ⟨zn0, zn1, zn2, zn3, zn4, zn5, zn6, zn7⟩ := hdB_cells HF6.out.1.ps.r1
  go_wp2_with fail
  refine bodyPost_ret (v := .tuple #[.agg #[.int .i64 0, .int .i64 0, .slice none 0 0, .slice none 0 0, .slice none 0 0, .int .i64 0, .int .i64 0, .int .i64 0], .int .i64 0, .int .i64 3]) ?_ rfl ?_
  · exact results_row_tmp2 (t := 24) rfl _ _ w.heap.size _ (fr := (0, 0)) _ _ _ rfl rfl rfl HF6.out.1.ps.zend.2 Tryz.underlying24 rfl infoHd
  · exact ⟨HF6.out.1.ps.zend.1, Or.inl ⟨3, HX.out.1.trans HX.out.2.1, rfl⟩⟩
set_option maxRecDepth 20000 in
set_option maxHeartbeats 4000000 in
theorem peekS_l13 (b off n cap m : Nat) (xs : List Int) (w : World) (hl : Lies w b off n cap xs) (hB : Bytes xs) (hn : n ≤ 65536) (h1 : 1 ≤ n) (hm : m ≤ 8) (hF : ¬ vals (sub xs 0 1) < 128) (h6 : ¬ n < 6) (L1 : Nat) (hL1 : vals (sub xs 5 1) = (L1 : Int)) (h81 : ¬ 8 < L1) (hs1 : ¬ n < 6 + L1) (h7 : ¬ n < 7 + L1) (L2 : Nat) (hL2 : vals (sub xs (6 + L1) 1) = (L2 : Int)) (h82 : ¬ 8 < L2) (hs2 : ¬ n < 7 + L1 + L2) (hv0 : ¬ vals (sub xs 1 4) = 0) (hk1 : 240 ≤ vals (sub xs 0 1)) (hk2 : vals (sub xs 0 1) < 256) (c : Int) (hpr : pkRet xs (6 + L1 + 1 + L2) = .error c) :
    Calls Tryz.prog 38 #[.slice (some ⟨b, off, none⟩) n cap, .int .i64 m] w fun e w' => PkPost xs m w e w' := by
  have hlen := hl.len
  have P0 := ps_new w (.slice (some ⟨b, off, none⟩) n cap)
  have hbg : b ≠ w.heap.size + 1 + 1 := by have := hl.lt; omega
  have hf := fixedS_ok (w.heap.size + 1 + 1) b off n cap 0 1 xs _ P0.rd (hl.below P0.bel) hB hbg hn (by omega) (by decide) (by decide)
  have eP := pk_long xs m (by omega) (by omega) hm hF
  have e : pkLong xs (vals (sub xs 0 1)) = .error c := by rw [pkLong_4 (by omega) (cid_ok xs 5 L1 (by omega) hL1 h81 (by omega)) (show pkCid xs (5 + 1 + L1) = .ok _ by rw [show 5 + 1 + L1 = 6 + L1 from rfl]; exact cid_ok xs (6 + L1) L2 (by omega) hL2 h82 (by omega))]; unfold pkTail; have hq : lform (vals (sub xs 0 1)) = 3 := (by unfold lform; rw [if_neg (by omega), if_neg (by omega), if_neg (by omega), if_neg (by omega)]); rw [if_neg hv0, hq, if_pos rfl, hpr]
  have d1 : decide (vals (sub xs 0 1) < 64) = false := decide_eq_false (by omega)
  have d1b : decide (vals (sub xs 0 1) < 128) = false := decide_eq_false hF
  have HX : Hid _ := And.intro eP (And.intro e (And.intro P0 (And.intro hl (And.intro hB (And.intro hn (And.intro hbg (And.intro hlen (And.intro h6 (And.intro hL1 (And.intro h81 (And.intro hs1 (And.intro h7 (And.intro hL2 (And.intro h82 (And.intro hs2 (And.intro hv0 (And.intro hk1 (And.intro hk2 hpr))))))))))))))))))
  clear eP e P0 hl hB hbg hlen hF hn h1 h6 hL1 h81 hs1 h7 hL2 h82 hs2 hv0 hk1 hk2 hpr
  obtain ⟨f, hfe⟩ : ∃ f, f = vals (sub xs 0 1) := ⟨_, rfl⟩
  rw [← hfe] at hf d1 d1b
  have HFE : Hid _ := And.intro hfe True.intro
  clear hfe
  go_enter Tryz.func38, Tryz.ntmps38
  go_wp2_with fail
  go_at_call 61
  refine hf.mono ?_
  rintro e w1 ⟨rfl, r1, c1⟩
  clear hf
  have HA : Hid _ := And.intro (HX.out.2.2.1.next r1 c1) True.intro
  have f1 := HA.out.1.rd.c2
  clear r1 c1
  have hv := fixedS_ok (w.heap.size + 1 + 1) b off n cap (0 + 1) 4 xs w1 HA.out.1.rd (HX.out.2.2.2.1.below HA.out.1.bel) HX.out.2.2.2.2.1 HX.out.2.2.2.2.2.2.1 HX.out.2.2.2.2.2.1 (by have a0 := HX.out.2.2.2.2.2.2.2.2.1; omega) (by decide) (by decide)
  obtain ⟨V, hVe⟩ : ∃ V, V = vals (sub xs (0 + 1) 4) := ⟨_, rfl⟩
  rw [← hVe] at hv
  have HVE : Hid _ := And.intro hVe True.intro
  clear hVe
  go_wp2_with fail
  go_at_call 61
  refine hv.mono ?_
  rintro e w2 ⟨rfl, r2, c2⟩
  clear hv f1
  have HC : Hid _ := And.intro (ph_new (HA.out.1.next r2 c2) V) True.intro
  clear r2 c2
  have hc := fixedS_ok (w.heap.size + 1 + 1) b off n cap 5 1 xs _ (show srB _ _ _ ((5 : Nat) : Int) _ from HC.out.1.ps.rd) (HX.out.2.2.2.1.below HC.out.1.ps.bel) HX.out.2.2.2.2.1 HX.out.2.2.2.2.2.2.1 HX.out.2.2.2.2.2.1 (by have a0 := HX.out.2.2.2.2.2.2.2.2.1; omega) (by decide) (by decide)
  rw [HX.out.2.2.2.2.2.2.2.2.2.1] at hc
  go_wp2_with fail
  go_at_call 61
  refine hc.mono ?_
  rintro e w3 ⟨rfl, r3, c3⟩
  clear hc
  have HE3 : Hid _ := And.intro (HC.out.1.next r3 c3) (Nat.le_trans HC.out.1.ps.bel.size c3.size)
  have f3 := HE3.out.1.ps.rd.c2
  clear r3 c3
  have ht := takeS_ok (w.heap.size + 1 + 1) b off n cap (5 + 1) L1 xs w3 HE3.out.1.ps.rd (HX.out.2.2.2.1.below HE3.out.1.ps.bel) HX.out.2.2.2.2.2.2.1 HX.out.2.2.2.2.2.1 (by have a0 := HX.out.2.2.2.2.2.2.2.2.2.2.2.1; omega)
  have b1 : decide ((8 : Int) < (L1 : Int)) = false := decide_eq_false (by have a0 := HX.out.2.2.2.2.2.2.2.2.2.2.1; omega)
  go_wp2_with fail
  go_at_call 62
  refine ht.mono ?_
  rintro e w4 ⟨vd, rfl, o4, r4, c4⟩
  clear ht f3
  obtain ⟨da, dp, ed⟩ := (row_of_owns o4).form
  rw [sub_len xs (5 + 1) L1 (by have a0 := HX.out.2.2.2.2.2.2.2.1; have a1 := HX.out.2.2.2.2.2.2.2.2.2.2.2.1; omega)] at ed
  subst ed
  have HT4 := HE3.out.1.next r4 c4
  have s2 : w4.cell? ⟨w2.heap.size, 2, none⟩ = some (.slice none 0 0) := (hdB_cells HT4.hd).2.2.1
  have s2f : w4.frozen? ⟨w2.heap.size, 2, none⟩ = false := (hdB_free HT4.hd).2.2.1
  have HF4 : Hid _ := And.intro (HT4.set2 (.slice da L1 dp)) (And.intro o4 c4.size)
  clear HT4 r4 c4 o4
  have hc := fixedS_ok (w.heap.size + 1 + 1) b off n cap (6 + L1) 1 xs _ (show srB _ _ _ ((6 + L1 : Nat) : Int) _ from HF4.out.1.ps.rd) (HX.out.2.2.2.1.below HF4.out.1.ps.bel) HX.out.2.2.2.2.1 HX.out.2.2.2.2.2.2.1 HX.out.2.2.2.2.2.1 (by have a0 := HX.out.2.2.2.2.2.2.2.2.2.2.2.2.1; omega) (by decide) (by decide)
  rw [HX.out.2.2.2.2.2.2.2.2.2.2.2.2.2.1] at hc
  go_wp2_with fail
  go_at_call 61
  refine hc.mono ?_
  rintro e w5 ⟨rfl, r5, c5⟩
  clear hc s2 s2f b1
  have HE5 : Hid _ := And.intro (HF4.out.1.next r5 c5) c5
  have f5 := HE5.out.1.ps.rd.c2
  clear r5 c5
  have ht := takeS_ok (w.heap.size + 1 + 1) b off n cap (6 + L1 + 1) L2 xs w5 HE5.out.1.ps.rd (HX.out.2.2.2.1.below HE5.out.1.ps.bel) HX.out.2.2.2.2.2.2.1 HX.out.2.2.2.2.2.1 (by have a0 := HX.out.2.2.2.2.2.2.2.2.2.2.2.2.2.2.2.1; omega)
  have b2 : decide ((8 : Int) < (L2 : Int)) = false := decide_eq_false (by have a0 := HX.out.2.2.2.2.2.2.2.2.2.2.2.2.2.2.1; omega)
  go_wp2_with fail
  go_at_call 62
  refine ht.mono ?_
  rintro e w6 ⟨vs, rfl, o6, r6, c6⟩
  clear ht f5
  obtain ⟨sa, sp, es⟩ := (row_of_owns o6).form
  rw [sub_len xs (6 + L1 + 1) L2 (by have a0 := HX.out.2.2.2.2.2.2.2.1; have a1 := HX.out.2.2.2.2.2.2.2.2.2.2.2.2.2.2.2.1; omega)] at es
  subst es
  have HT6 := HE5.out.1.next r6 c6
  have s3 : w6.cell? ⟨w2.heap.size, 3, none⟩ = some (.slice none 0 0) := (hdB_cells HT6.hd).2.2.2.1
  have s3f : w6.frozen? ⟨w2.heap.size, 3, none⟩ = false := (hdB_free HT6.hd).2.2.2.1
  have hbl : w2.heap.size < w3.heap.size := (Array.getElem?_eq_some_iff.1 HE3.out.1.hd).1
  have hgl := HE3.out.1.ps.rd.lt
  have hs45 : w4.heap.size ≤ w5.heap.size := by have h := HE5.out.2.size; rw [sizeS] at h; exact h
  have hs34 : w3.heap.size ≤ w4.heap.size := HF4.out.2.2
  have cZ : Chg (SG (w.heap.size + 1 + 1) w2.heap.size) w4 (w6.setCell ⟨w2.heap.size, 3, none⟩ (.slice sa L2 sp)) := ((((Chg.refl (SG (w.heap.size + 1 + 1) w2.heap.size) w4).setP 2 (.slice da L1 dp)).trans HE5.out.2.toG).trans c6.toG).setP 3 (.slice sa L2 sp)
  have od := cZ.ownsG HF4.out.2.1 hgl hbl
  have os : (w6.setCell ⟨w2.heap.size, 3, none⟩ (.slice sa L2 sp)).ownsRow w5.heap.size 5 1 (.slice sa L2 sp) L2 ((sub xs (6 + L1 + 1) L2).map (Value.int .u8)) := owns_set o6 (by omega)
  have HO : Hid _ := And.intro od (And.intro os (And.intro (apart_of HF4.out.2.1 o6 hs45) (And.intro hgl (And.intro hbl (And.intro (Nat.le_trans hs34 hs45) (by have := HE3.out.2; omega : w.heap.size < w3.heap.size))))))
  have HF6 : Hid _ := And.intro (HT6.set3 (.slice sa L2 sp)) True.intro
  have f6 := HF6.out.1.ps.rd.c2
  have v6 := (hdB_cells HF6.out.1.hd).2.1
  clear HT6 r6 c6 o6 cZ od os hgl hbl hs45 hs34
  have z0 : (V == 0) = false := by rw [HVE.out.1]; have h := HX.out.2.2.2.2.2.2.2.2.2.2.2.2.2.2.2.2.1; simpa using h
  have z1 : decide (f < 192) = false := by rw [HFE.out.1]; exact decide_eq_false (by have a0 := HX.out.2.2.2.2.2.2.2.2.2.2.2.2.2.2.2.2.2.1; omega)
  have zw : IntKind.i64.wrap (f - 192) = f - 192 := by rw [IntKind.wrap_i64, HFE.out.1]; have h1 := HX.out.2.2.2.2.2.2.2.2.2.2.2.2.2.2.2.2.2.1; have h2 := HX.out.2.2.2.2.2.2.2.2.2.2.2.2.2.2.2.2.2.2.1; omega
  have zq : (f - 192).tdiv 16 = 3 := by rw [HFE.out.1, Int.tdiv_eq_ediv_of_nonneg (by have h1 := HX.out.2.2.2.2.2.2.2.2.2.2.2.2.2.2.2.2.2.1; omega)]; have h1 := HX.out.2.2.2.2.2.2.2.2.2.2.2.2.2.2.2.2.2.1; have h2 := HX.out.2.2.2.2.2.2.2.2.2.2.2.2.2.2.2.2.2.2.1; omega
  have hrt := retryS (w.heap.size + 1 + 1) b off n cap (6 + L1 + 1 + L2) xs 0 V da sa L1 dp L2 sp _ (show srB _ _ _ ((6 + L1 + 1 + L2 : Nat) : Int) _ from HF6.out.1.ps.rd) (HX.out.2.2.2.1.below HF6.out.1.ps.bel) HX.out.2.2.2.2.2.2.1 HX.out.2.2.2.2.2.1 (by have a0 := HX.out.2.2.2.2.2.2.2.2.2.2.2.2.2.2.2.1; omega)
  obtain ⟨g0, g1, g2, g3, g4, g5, g6, g7⟩ := hdB_cells HF6.out.1.hd
  go_wp2_with fail
  go_at_call 65
  refine hrt.mono ?_
  rintro e w7 ⟨c7, ⟨c', hc', rfl⟩ | ⟨t, vt, hc', _⟩⟩
  rotate_left
  · rw [HX.out.2.2.2.2.2.2.2.2.2.2.2.2.2.2.2.2.2.2.2] at hc'; cases hc'
  rw [HX.out.2.2.2.2.2.2.2.2.2.2.2.2.2.2.2.2.2.2.2] at hc'
  cases hc'
  have k0 : hdB w7 w.heap.size (.int .i64 0) (.int .i64 0) (.slice none 0 0) (.slice none 0 0) (.slice none 0 0) (.int .i64 0) (.int .i64 0) (.int .i64 0) := (c7.block _ ((Array.getElem?_eq_some_iff.1 HF6.out.1.ps.r0).1) (by omega)).trans HF6.out.1.ps.r0
  have kb : Below w.heap.size w w7 := HF6.out.1.ps.bel.trans (c7.below HF6.out.1.ps.bel.size (fun k hk => by omega))
  obtain ⟨zc0, zc1, zc2, zc3, zc4, zc5, zc6, zc7⟩ := hdB_cells k0
  obtain ⟨zf0, zf1, zf2, zf3, zf4, zf5, zf6, zf7⟩ := hdB_free k0
  have hE8 : (st8 w7 w.heap.size (.int .i64 0) (.int .i64 0) (.slice none 0 0) (.slice none 0 0) (.slice none 0 0) (.int .i64 0) (.int .i64 0) (.int .i64 0)).heap[w.heap.size]? = some (.cells #[.int .i64 0, .int .i64 0, .slice none 0 0, .slice none 0 0, .slice none 0 0, .int .i64 0, .int .i64 0, .int .i64 0] 24 (0, 0)) := st8_heap k0
  have hB8 : Below w.heap.size w (st8 w7 w.heap.size (.int .i64 0) (.int .i64 0) (.slice none 0 0) (.slice none 0 0) (.slice none 0 0) (.int .i64 0) (.int .i64 0) (.int .i64 0)) := st8_below kb (Nat.le_refl _)
  have HQ : Hid _ := And.intro hE8 hB8
  clear hE8 hB8 k0 kb c7 hrt
  go_wp2_with fail
  refine bodyPost_ret (v := .tuple #[.agg #[.int .i64 0, .int .i64 0, .slice none 0 0, .slice none 0 0, .slice none 0 0, .int .i64 0, .int .i64 0, .int .i64 0], .int .i64 0, .int .i64 c]) ?_ rfl ?_
  · exact results_row_tmp2 (t := 24) rfl _ _ w.heap.size _ (fr := (0, 0)) _ _ _ rfl rfl rfl HQ.out.1 Tryz.underlying24 rfl infoHd
  · exact ⟨HQ.out.2, Or.inl ⟨c, HX.out.1.trans HX.out.2.1, rfl⟩⟩
set_option maxRecDepth 20000 in
set_option maxHeartbeats 4000000 in
theorem peekS_l14 (b off n cap m : Nat) (xs : List Int) (w : World) (hl : Lies w b off n cap xs) (hB : Bytes xs) (hn : n ≤ 65536) (h1 : 1 ≤ n) (hm : m ≤ 8) (hF : ¬ vals (sub xs 0 1) < 128) (h6 : ¬ n < 6) (L1 : Nat) (hL1 : vals (sub xs 5 1) = (L1 : Int)) (h81 : ¬ 8 < L1) (hs1 : ¬ n < 6 + L1) (h7 : ¬ n < 7 + L1) (L2 : Nat) (hL2 : vals (sub xs (6 + L1) 1) = (L2 : Int)) (h82 : ¬ 8 < L2) (hs2 : ¬ n < 7 + L1 + L2) (hv0 : ¬ vals (sub xs 1 4) = 0) (hk1 : 240 ≤ vals (sub xs 0 1)) (hk2 : vals (sub xs 0 1) < 256) (t : List Int) (hpr : pkRet xs (6 + L1 + 1 + L2) = .ok t) :
    Calls Tryz.prog 38 #[.slice (some ⟨b, off, none⟩) n cap, .int .i64 m] w fun e w' => PkPost xs m w e w' := by
  have hlen := hl.len
  have P0 := ps_new w (.slice (some ⟨b, off, none⟩) n cap)
  have hbg : b ≠ w.heap.size + 1 + 1 := by have := hl.lt; omega
  have hf := fixedS_ok (w.heap.size + 1 + 1) b off n cap 0 1 xs _ P0.rd (hl.below P0.bel) hB hbg hn (by omega) (by decide) (by decide)
  have eP := pk_long xs m (by omega) (by omega) hm hF
  have e : pkLong xs (vals (sub xs 0 1)) = .ok ⟨3, vals (sub xs 1 4), sub xs (5 + 1) L1, sub xs (6 + L1 + 1) L2, t, [], 0, xs.length⟩ := by rw [pkLong_4 (by omega) (cid_ok xs 5 L1 (by omega) hL1 h81 (by omega)) (show pkCid xs (5 + 1 + L1) = .ok _ by rw [show 5 + 1 + L1 = 6 + L1 from rfl]; exact cid_ok xs (6 + L1) L2 (by omega) hL2 h82 (by omega))]; unfold pkTail; have hq : lform (vals (sub xs 0 1)) = 3 := (by unfold lform; rw [if_neg (by omega), if_neg (by omega), if_neg (by omega), if_neg (by omega)]); rw [if_neg hv0, hq, if_pos rfl, hpr]
  have d1 : decide (vals (sub xs 0 1) < 64) = false := decide_eq_false (by omega)
  have d1b : decide (vals (sub xs 0 1) < 128) = false := decide_eq_false hF
  have HX : Hid _ := And.intro eP (And.intro e (And.intro P0 (And.intro hl (And.intro hB (And.intro hn (And.intro hbg (And.intro hlen (And.intro h6 (And.intro hL1 (And.intro h81 (And.intro hs1 (And.intro h7 (And.intro hL2 (And.intro h82 (And.intro hs2 (And.intro hv0 (And.intro hk1 (And.intro hk2 hpr))))))))))))))))))
  clear eP e P0 hl hB hbg hlen hF hn h1 h6 hL1 h81 hs1 h7 hL2 h82 hs2 hv0 hk1 hk2 hpr
  obtain ⟨f, hfe⟩ : ∃ f, f = vals (sub xs 0 1) := ⟨_, rfl⟩
  rw [← hfe] at hf d1 d1b
  have HFE : Hid _ := And.intro hfe True.intro
  clear hfe
  go_enter Tryz.func38, Tryz.ntmps38
  go_wp2_with fail
  go_at_call 61
  refine hf.mono ?_
  rintro e w1 ⟨rfl, r1, c1⟩
  clear hf
  have HA : Hid _ := And.intro (HX.out.2.2.1.next r1 c1) True.intro
  have f1 := HA.out.1.rd.c2
  clear r1 c1
  have hv := fixedS_ok (w.heap.size + 1 + 1) b off n cap (0 + 1) 4 xs w1 HA.out.1.rd (HX.out.2.2.2.1.below HA.out.1.bel) HX.out.2.2.2.2.1 HX.out.2.2.2.2.2.2.1 HX.out.2.2.2.2.2.1 (by have a0 := HX.out.2.2.2.2.2.2.2.2.1; omega) (by decide) (by decide)
  obtain ⟨V, hVe⟩ : ∃ V, V = vals (sub xs (0 + 1) 4) := ⟨_, rfl⟩
  rw [← hVe] at hv
  have HVE : Hid _ := And.intro hVe True.intro
  clear hVe
  go_wp2_with fail
  go_at_call 61
  refine hv.mono ?_
  rintro e w2 ⟨rfl, r2, c2⟩
  clear hv f1
  have HC : Hid _ := And.intro (ph_new (HA.out.1.next r2 c2) V) True.intro
  clear r2 c2
  have hc := fixedS_ok (w.heap.size + 1 + 1) b off n cap 5 1 xs _ (show srB _ _ _ ((5 : Nat) : Int) _ from HC.out.1.ps.rd) (HX.out.2.2.2.1.below HC.out.1.ps.bel) HX.out.2.2.2.2.1 HX.out.2.2.2.2.2.2.1 HX.out.2.2.2.2.2.1 (by have a0 := HX.out.2.2.2.2.2.2.2.2.1; omega) (by decide) (by decide)
  rw [HX.out.2.2.2.2.2.2.2.2.2.1] at hc
  go_wp2_with fail
  go_at_call 61
  refine hc.mono ?_
  rintro e w3 ⟨rfl, r3, c3⟩
  clear hc
  have HE3 : Hid _ := And.intro (HC.out.1.next r3 c3) (Nat.le_trans HC.out.1.ps.bel.size c3.size)
  have f3 := HE3.out.1.ps.rd.c2
  clear r3 c3
  have ht := takeS_ok (w.heap.size + 1 + 1) b off n cap (5 + 1) L1 xs w3 HE3.out.1.ps.rd (HX.out.2.2.2.1.below HE3.out.1.ps.bel) HX.out.2.2.2.2.2.2.1 HX.out.2.2.2.2.2.1 (by have a0 := HX.out.2.2.2.2.2.2.2.2.2.2.2.1; omega)
  have b1 : decide ((8 : Int) < (L1 : Int)) = false := decide_eq_false (by have a0 := HX.out.2.2.2.2.2.2.2.2.2.2.1; omega)
  go_wp2_with fail
  go_at_call 62
  refine ht.mono ?_
  rintro e w4 ⟨vd, rfl, o4, r4, c4⟩
  clear ht f3
  obtain ⟨da, dp, ed⟩ := (row_of_owns o4).form
  rw [sub_len xs (5 + 1) L1 (by have a0 := HX.out.2.2.2.2.2.2.2.1; have a1 := HX.out.2.2.2.2.2.2.2.2.2.2.2.1; omega)] at ed
  subst ed
  have HT4 := HE3.out.1.next r4 c4
  have s2 : w4.cell? ⟨w2.heap.size, 2, none⟩ = some (.slice none 0 0) := (hdB_cells HT4.hd).2.2.1
  have s2f : w4.frozen? ⟨w2.heap.size, 2, none⟩ = false := (hdB_free HT4.hd).2.2.1
  have HF4 : Hid _ := And.intro (HT4.set2 (.slice da L1 dp)) (And.intro o4 c4.size)
  clear HT4 r4 c4 o4
  have hc := fixedS_ok (w.heap.size + 1 + 1) b off n cap (6 + L1) 1 xs _ (show srB _ _ _ ((6 + L1 : Nat) : Int) _ from HF4.out.1.ps.rd) (HX.out.2.2.2.1.below HF4.out.1.ps.bel) HX.out.2.2.2.2.1 HX.out.2.2.2.2.2.2.1 HX.out.2.2.2.2.2.1 (by have a0 := HX.out.2.2.2.2.2.2.2.2.2.2.2.2.1; omega) (by decide) (by decide)
  rw [HX.out.2.2.2.2.2.2.2.2.2.2.2.2.2.1] at hc
  go_wp2_with fail
  go_at_call 61
  refine hc.mono ?_
  rintro e w5 ⟨rfl, r5, c5⟩
  clear hc s2 s2f b1
  have HE5 : Hid _ := And.intro (HF4.out.1.next r5 c5) c5
  have f5 := HE5.out.1.ps.rd.c2
  clear r5 c5
  have ht := takeS_ok (w.heap.size + 1 + 1) b off n cap (6 + L1 + 1) L2 xs w5 HE5.out.1.ps.rd (HX.out.2.2.2.1.below HE5.out.1.ps.bel) HX.out.2.2.2.2.2.2.1 HX.out.2.2.2.2.2.1 (by have a0 := HX.out.2.2.2.2.2.2.2.2.2.2.2.2.2.2.2.1; omega)
  have b2 : decide ((8 : Int) < (L2 : Int)) = false := decide_eq_false (by have a0 := HX.out.2.2.2.2.2.2.2.2.2.2.2.2.2.2.1; omega)
  go_wp2_with fail
  go_at_call 62
  refine ht.mono ?_
  rintro e w6 ⟨vs, rfl, o6, r6, c6⟩
  clear ht f5
  obtain ⟨sa, sp, es⟩ := (row_of_owns o6).form
  rw [sub_len xs (6 + L1 + 1) L2 (by have a0 := HX.out.2.2.2.2.2.2.2.1; have a1 := HX.out.2.2.2.2.2.2.2.2.2.2.2.2.2.2.2.1; omega)] at es
  subst es
  have HT6 := HE5.out.1.next r6 c6
  have s3 : w6.cell? ⟨w2.heap.size, 3, none⟩ = some (.slice none 0 0) := (hdB_cells HT6.hd).2.2.2.1
  have s3f : w6.frozen? ⟨w2.heap.size, 3, none⟩ = false := (hdB_free HT6.hd).2.2.2.1
  have hbl : w2.heap.size < w3.heap.size := (Array.getElem?_eq_some_iff.1 HE3.out.1.hd).1
  have hgl := HE3.out.1.ps.rd.lt
  have hs45 : w4.heap.size ≤ w5.heap.size := by have h := HE5.out.2.size; rw [sizeS] at h; exact h
  have hs34 : w3.heap.size ≤ w4.heap.size := HF4.out.2.2
  have cZ : Chg (SG (w.heap.size + 1 + 1) w2.heap.size) w4 (w6.setCell ⟨w2.heap.size, 3, none⟩ (.slice sa L2 sp)) := ((((Chg.refl (SG (w.heap.size + 1 + 1) w2.heap.size) w4).setP 2 (.slice da L1 dp)).trans HE5.out.2.toG).trans c6.toG).setP 3 (.slice sa L2 sp)
  have od := cZ.ownsG HF4.out.2.1 hgl hbl
  have os : (w6.setCell ⟨w2.heap.size, 3, none⟩ (.slice sa L2 sp)).ownsRow w5.heap.size 5 1 (.slice sa L2 sp) L2 ((sub xs (6 + L1 + 1) L2).map (Value.int .u8)) := owns_set o6 (by omega)
  have HO : Hid _ := And.intro od (And.intro os (And.intro (apart_of HF4.out.2.1 o6 hs45) (And.intro hgl (And.intro hbl (And.intro (Nat.le_trans hs34 hs45) (by have := HE3.out.2; omega : w.heap.size < w3.heap.size))))))
  have HF6 : Hid _ := And.intro (HT6.set3 (.slice sa L2 sp)) True.intro
  have f6 := HF6.out.1.ps.rd.c2
  have v6 := (hdB_cells HF6.out.1.hd).2.1
  clear HT6 r6 c6 o6 cZ od os hgl hbl hs45 hs34
  have z0 : (V == 0) = false := by rw [HVE.out.1]; have h := HX.out.2.2.2.2.2.2.2.2.2.2.2.2.2.2.2.2.1; simpa using h
  have z1 : decide (f < 192) = false := by rw [HFE.out.1]; exact decide_eq_false (by have a0 := HX.out.2.2.2.2.2.2.2.2.2.2.2.2.2.2.2.2.2.1; omega)
  have zw : IntKind.i64.wrap (f - 192) = f - 192 := by rw [IntKind.wrap_i64, HFE.out.1]; have h1 := HX.out.2.2.2.2.2.2.2.2.2.2.2.2.2.2.2.2.2.1; have h2 := HX.out.2.2.2.2.2.2.2.2.2.2.2.2.2.2.2.2.2.2.1; omega
  have zq : (f - 192).tdiv 16 = 3 := by rw [HFE.out.1, Int.tdiv_eq_ediv_of_nonneg (by have h1 := HX.out.2.2.2.2.2.2.2.2.2.2.2.2.2.2.2.2.2.1; omega)]; have h1 := HX.out.2.2.2.2.2.2.2.2.2.2.2.2.2.2.2.2.2.1; have h2 := HX.out.2.2.2.2.2.2.2.2.2.2.2.2.2.2.2.2.2.2.1; omega
  have hrt := retryS (w.heap.size + 1 + 1) b off n cap (6 + L1 + 1 + L2) xs 0 V da sa L1 dp L2 sp _ (show srB _ _ _ ((6 + L1 + 1 + L2 : Nat) : Int) _ from HF6.out.1.ps.rd) (HX.out.2.2.2.1.below HF6.out.1.ps.bel) HX.out.2.2.2.2.2.2.1 HX.out.2.2.2.2.2.1 (by have a0 := HX.out.2.2.2.2.2.2.2.2.2.2.2.2.2.2.2.1; omega)
  obtain ⟨g0, g1, g2, g3, g4, g5, g6, g7⟩ := hdB_cells HF6.out.1.hd
  go_wp2_with fail
  go_at_call 65
  refine hrt.mono ?_
  rintro e w7 ⟨c7, ⟨c', hc', _⟩ | ⟨t', vt, hc', rfl, ot⟩⟩
  · rw [HX.out.2.2.2.2.2.2.2.2.2.2.2.2.2.2.2.2.2.2.2] at hc'; cases hc'
  rw [HX.out.2.2.2.2.2.2.2.2.2.2.2.2.2.2.2.2.2.2.2] at hc'
  cases hc'
  obtain ⟨ta, tp, et⟩ := (row_of_owns ot).form
  subst et
  have k0 : hdB w7 w.heap.size (.int .i64 0) (.int .i64 0) (.slice none 0 0) (.slice none 0 0) (.slice none 0 0) (.int .i64 0) (.int .i64 0) (.int .i64 0) := (c7.block _ ((Array.getElem?_eq_some_iff.1 HF6.out.1.ps.r0).1) (by omega)).trans HF6.out.1.ps.r0
  have kb : Below w.heap.size w w7 := HF6.out.1.ps.bel.trans (c7.below HF6.out.1.ps.bel.size (fun k hk => by omega))
  obtain ⟨zc0, zc1, zc2, zc3, zc4, zc5, zc6, zc7⟩ := hdB_cells k0
  obtain ⟨zf0, zf1, zf2, zf3, zf4, zf5, zf6, zf7⟩ := hdB_free k0
  have hE8 : (st8 w7 w.heap.size (.int .i64 3) (.int .i64 V) (.slice da L1 dp) (.slice sa L2 sp) (.slice ta t.length tp) (.int .i64 0) (.int .i64 0) (.int .i64 0)).heap[w.heap.size]? = _ := st8_heap k0
  have hB8 : Below w.heap.size w (st8 w7 w.heap.size (.int .i64 3) (.int .i64 V) (.slice da L1 dp) (.slice sa L2 sp) (.slice ta t.length tp) (.int .i64 0) (.int .i64 0) (.int .i64 0)) := st8_below kb (Nat.le_refl _)
  have hw3 : w.heap.size < w3.heap.size := HO.out.2.2.2.2.2.2
  have hw5 : w3.heap.size ≤ w5.heap.size := HO.out.2.2.2.2.2.1
  have cW := (c7.toG (pb := w2.heap.size))
  have hw6 : w.heap.size < (w6.setCell ⟨w2.heap.size, 3, none⟩ (.slice sa L2 sp)).heap.size := by have h := HF6.out.1.ps.rd.lt; omega
  have od2 : (st8 w7 w.heap.size (.int .i64 3) (.int .i64 V) (.slice da L1 dp) (.slice sa L2 sp) (.slice ta t.length tp) (.int .i64 0) (.int .i64 0) (.int .i64 0)).ownsRow w3.heap.size 5 1 (.slice da L1 dp) L1 _ := st8_owns (cW.ownsG HO.out.1 HO.out.2.2.2.1 HO.out.2.2.2.2.1) hw3
  have os2 : (st8 w7 w.heap.size (.int .i64 3) (.int .i64 V) (.slice da L1 dp) (.slice sa L2 sp) (.slice ta t.length tp) (.int .i64 0) (.int .i64 0) (.int .i64 0)).ownsRow w5.heap.size 5 1 (.slice sa L2 sp) L2 _ := st8_owns (cW.ownsG HO.out.2.1 (Nat.lt_of_lt_of_le HO.out.2.2.2.1 hw5) (Nat.lt_of_lt_of_le HO.out.2.2.2.2.1 hw5)) (Nat.lt_of_lt_of_le hw3 hw5)
  have ot2 : (st8 w7 w.heap.size (.int .i64 3) (.int .i64 V) (.slice da L1 dp) (.slice sa L2 sp) (.slice ta t.length tp) (.int .i64 0) (.int .i64 0) (.int .i64 0)).ownsRow (w6.setCell ⟨w2.heap.size, 3, none⟩ (.slice sa L2 sp)).heap.size 5 1 (.slice ta t.length tp) t.length _ := st8_owns ot hw6
  have hd2 : (st8 w7 w.heap.size (.int .i64 3) (.int .i64 V) (.slice da L1 dp) (.slice sa L2 sp) (.slice ta t.length tp) (.int .i64 0) (.int .i64 0) (.int .i64 0)).ownsRow w.heap.size 5 1 (.slice da L1 dp) (sub xs (5 + 1) L1).length ((sub xs (5 + 1) L1).map (Value.int .u8)) := by rw [sub_len xs (5 + 1) L1 (by have a0 := HX.out.2.2.2.2.2.2.2.1; have a1 := HX.out.2.2.2.2.2.2.2.2.2.2.2.1; omega)]; exact owns_mono od2 (Nat.le_of_lt hw3)
  have hs2 : (st8 w7 w.heap.size (.int .i64 3) (.int .i64 V) (.slice da L1 dp) (.slice sa L2 sp) (.slice ta t.length tp) (.int .i64 0) (.int .i64 0) (.int .i64 0)).ownsRow w.heap.size 5 1 (.slice sa L2 sp) (sub xs (6 + L1 + 1) L2).length ((sub xs (6 + L1 + 1) L2).map (Value.int .u8)) := by rw [sub_len xs (6 + L1 + 1) L2 (by have a0 := HX.out.2.2.2.2.2.2.2.1; have a1 := HX.out.2.2.2.2.2.2.2.2.2.2.2.2.2.2.2.1; omega)]; exact owns_mono os2 (by omega)
  have HQ : Hid _ := And.intro hE8 (And.intro hB8 (And.intro hd2 (And.intro hs2 (And.intro (owns_mono ot2 (Nat.le_of_lt hw6)) (And.intro (apart_of HO.out.1 ot (Nat.le_refl _)) (apart_of HO.out.2.1 ot (Nat.le_refl _)))))))
  clear hE8 hB8 k0 kb c7 hrt hw3 hw5 hw6 cW od2 os2 ot2 hd2 hs2 ot
  go_wp2_with fail
  refine bodyPost_ret (v := .tuple #[.agg #[.int .i64 3, .int .i64 V, .slice da L1 dp, .slice sa L2 sp, .slice ta t.length tp, .int .i64 0, .int .i64 0, .int .i64 0], .int .i64 n, .int .i64 0]) ?_ rfl ?_
  · exact results_row_tmp2 (t := 24) rfl _ _ w.heap.size _ (fr := (0, 0)) _ _ _ rfl rfl rfl HQ.out.1 Tryz.underlying24 rfl infoHd
  · exact ⟨HQ.out.2.1, Or.inr ⟨_, .slice da L1 dp, .slice sa L2 sp, .slice ta t.length tp, HX.out.1.trans HX.out.2.1, by rw [HX.out.2.2.2.2.2.2.2.1, HVE.out.1], ⟨HQ.out.2.2.1, HQ.out.2.2.2.1, HQ.out.2.2.2.2.1, HO.out.2.2.1, HQ.out.2.2.2.2.2.1, HQ.out.2.2.2.2.2.2⟩⟩⟩
end Go.Proofs.YtoalillggafnpaaGreatDoor
