import Derived.Test.YtbbiinbjgognjaaDoorSrK
import Derived.Deep.RegionWith
namespace Go.Proofs.YtbbiinbjgognjaaDoor
open Go.RowKit
set_option linter.unusedVariables false

set_option maxRecDepth 20000 in
set_option maxHeartbeats 4000000 in
theorem peekS_l01 (b off n cap m : Nat) (xs : List Int) (w : World) (hl : Lies w b off n cap xs) (hB : Bytes xs) (hn : n ≤ 65536) (h1 : 1 ≤ n) (hm : m ≤ 8) (hF : ¬ vals (sub xs 0 1) < 128) (h5 : n < 5) :
    Calls Tryd.prog 27 #[.slice (some ⟨b, off, none⟩) n cap, .int .i64 m] w fun e w' => PkPost xs m w e w' := by
  have hlen := hl.len
  have P0 := ps_new w (.slice (some ⟨b, off, none⟩) n cap)
  have hbg : b ≠ w.heap.size + 1 + 1 := by have := hl.lt; omega
  have hf := fixedS_ok (w.heap.size + 1 + 1) b off n cap 0 1 xs _ P0.rd (hl.below P0.bel) hB hbg hn (by omega) (by decide) (by decide)
  have eP := pk_long xs m (by omega) (by omega) hm hF
  have e : pkLong xs (vals (sub xs 0 1)) = .error 2 := by unfold pkLong; rw [if_pos (by omega)]
  have d1 : decide (vals (sub xs 0 1) < 64) = false := decide_eq_false (by omega)
  have d1b : decide (vals (sub xs 0 1) < 128) = false := decide_eq_false hF
  have HX : Hid _ := And.intro eP (And.intro e (And.intro P0 (And.intro hl (And.intro hB (And.intro hn (And.intro hbg (And.intro hlen (And.intro h1 h5))))))))
  clear eP e P0 hl hB hbg hlen hF hn h1 h5
  obtain ⟨f, hfe⟩ : ∃ f, f = vals (sub xs 0 1) := ⟨_, rfl⟩
  rw [← hfe] at hf d1 d1b
  have HFE : Hid _ := And.intro hfe True.intro
  clear hfe
  go_enter Tryd.func27, Tryd.ntmps27
  go_wp2_with fail
  go_at_call 36
  refine hf.mono ?_
  rintro e w1 ⟨rfl, r1, c1⟩
  clear hf
  have HA : Hid _ := And.intro (HX.out.2.2.1.next r1 c1) True.intro
  have f1 := HA.out.1.rd.c2
  clear r1 c1
  have hv := fixedS_no (w.heap.size + 1 + 1) (some ⟨b, off, none⟩) n cap ((0 + 1 : Nat) : Int) 4 false w1 HA.out.1.rd ⟨by omega, by have := HX.out.2.2.2.2.2.2.2.2.1; omega⟩ (by have := HX.out.2.2.2.2.2.1; omega) (Or.inr (by have := HX.out.2.2.2.2.2.2.2.2.2; omega))
  go_wp2_with fail
  go_at_call 36
  refine hv.mono ?_
  rintro e w2 ⟨rfl, r2, c2⟩
  clear hv f1
  have HC : Hid _ := And.intro (ph_new (HA.out.1.next r2 c2) 0) True.intro
  clear r2 c2
  have hc := fixedS_no (w.heap.size + 1 + 1) (some ⟨b, off, none⟩) n cap ((0 + 1 : Nat) : Int) 1 true _ HC.out.1.ps.rd ⟨by omega, by have := HX.out.2.2.2.2.2.2.2.2.1; omega⟩ (by have := HX.out.2.2.2.2.2.1; omega) (Or.inl rfl)
  go_wp2_with fail
  go_at_call 36
  refine hc.mono ?_
  rintro e w3 ⟨rfl, r3, c3⟩
  clear hc
  have HQ : Hid _ := And.intro (HC.out.1.next r3 c3) True.intro
  have f3 := HQ.out.1.ps.rd.c2
  clear r3 c3
  obtain ⟨zc0, zc1, zc2, zc3, zc4, zc5, zc6, zc7⟩ := hdB_cells HQ.out.1.ps.r0
  obtain ⟨zf0, zf1, zf2, zf3, zf4, zf5, zf6, zf7⟩ := hdB_free HQ.out.1.ps.r0
  obtain ⟨zn0, zn1, zn2, zn3, zn4, zn5, zn6, zn7⟩ := hdB_cells HQ.out.1.ps.r1
  have hfl := faultS_t (w.heap.size + 1 + 1) _ _ w3.drew HQ.out.1.ps.rd.drewX
  go_wp2_with fail
  go_region_with (go_at_call 38; refine hfl.mono ?_; rintro e wz ⟨rfl, hwz⟩; rw [hwz]; clear hwz wz)
  all_goals (go_wp2_with fail)
  all_goals (refine bodyPost_ret (v := .tuple #[.agg #[.int .i64 0, .int .i64 0, .slice none 0 0, .slice none 0 0, .slice none 0 0, .int .i64 0, .int .i64 0, .int .i64 0], .int .i64 0, .int .i64 2]) ?_ rfl ?_)
  all_goals first
    | exact results_row_tmp2 (t := 24) rfl _ _ w.heap.size _ (fr := (0, 0)) _ _ _ rfl rfl rfl HQ.out.1.ps.zendD.2 Tryd.underlying24 rfl infoHd
    | exact ⟨HQ.out.1.ps.zendD.1, Or.inl ⟨2, HX.out.1.trans HX.out.2.1, rfl⟩⟩
set_option maxRecDepth 20000 in
set_option maxHeartbeats 4000000 in
theorem peekS_l02 (b off n cap m : Nat) (xs : List Int) (w : World) (hl : Lies w b off n cap xs) (hB : Bytes xs) (hn : n ≤ 65536) (h1 : 1 ≤ n) (hm : m ≤ 8) (hF : ¬ vals (sub xs 0 1) < 128) (h5 : ¬ n < 5) (h6 : n < 6) :
    Calls Tryd.prog 27 #[.slice (some ⟨b, off, none⟩) n cap, .int .i64 m] w fun e w' => PkPost xs m w e w' := by
  have hlen := hl.len
  have P0 := ps_new w (.slice (some ⟨b, off, none⟩) n cap)
  have hbg : b ≠ w.heap.size + 1 + 1 := by have := hl.lt; omega
  have hf := fixedS_ok (w.heap.size + 1 + 1) b off n cap 0 1 xs _ P0.rd (hl.below P0.bel) hB hbg hn (by omega) (by decide) (by decide)
  have eP := pk_long xs m (by omega) (by omega) hm hF
  have e : pkLong xs (vals (sub xs 0 1)) = .error 2 := pkLong_2 (by omega) (cid_e1 xs 5 (by omega))
  have d1 : decide (vals (sub xs 0 1) < 64) = false := decide_eq_false (by omega)
  have d1b : decide (vals (sub xs 0 1) < 128) = false := decide_eq_false hF
  have HX : Hid _ := And.intro eP (And.intro e (And.intro P0 (And.intro hl (And.intro hB (And.intro hn (And.intro hbg (And.intro hlen (And.intro h5 h6))))))))
  clear eP e P0 hl hB hbg hlen hF hn h1 h5 h6
  obtain ⟨f, hfe⟩ : ∃ f, f = vals (sub xs 0 1) := ⟨_, rfl⟩
  rw [← hfe] at hf d1 d1b
  have HFE : Hid _ := And.intro hfe True.intro
  clear hfe
  go_enter Tryd.func27, Tryd.ntmps27
  go_wp2_with fail
  go_at_call 36
  refine hf.mono ?_
  rintro e w1 ⟨rfl, r1, c1⟩
  clear hf
  have HA : Hid _ := And.intro (HX.out.2.2.1.next r1 c1) True.intro
  have f1 := HA.out.1.rd.c2
  clear r1 c1
  have hv := fixedS_ok (w.heap.size + 1 + 1) b off n cap (0 + 1) 4 xs w1 HA.out.1.rd (HX.out.2.2.2.1.below HA.out.1.bel) HX.out.2.2.2.2.1 HX.out.2.2.2.2.2.2.1 HX.out.2.2.2.2.2.1 (by have := HX.out.2.2.2.2.2.2.2.2.1; omega) (by decide) (by decide)
  obtain ⟨V, hVe⟩ : ∃ V, V = vals (sub xs (0 + 1) 4) := ⟨_, rfl⟩
  rw [← hVe] at hv
  have HVE : Hid _ := And.intro hVe True.intro
  clear hVe
  go_wp2_with fail
  go_at_call 36
  refine hv.mono ?_
  rintro e w2 ⟨rfl, r2, c2⟩
  clear hv f1
  have HC : Hid _ := And.intro (ph_new (HA.out.1.next r2 c2) V) True.intro
  clear r2 c2
  have hc := fixedS_no (w.heap.size + 1 + 1) (some ⟨b, off, none⟩) n cap ((0 + 1 + 4 : Nat) : Int) 1 false _ HC.out.1.ps.rd ⟨by omega, by have := HX.out.2.2.2.2.2.2.2.2.1; omega⟩ (by have := HX.out.2.2.2.2.2.1; omega) (Or.inr (by have := HX.out.2.2.2.2.2.2.2.2.2; omega))
  go_wp2_with fail
  go_at_call 36
  refine hc.mono ?_
  rintro e w3 ⟨rfl, r3, c3⟩
  clear hc
  have HQ : Hid _ := And.intro (HC.out.1.next r3 c3) True.intro
  have f3 := HQ.out.1.ps.rd.c2
  clear r3 c3
  obtain ⟨zc0, zc1, zc2, zc3, zc4, zc5, zc6, zc7⟩ := hdB_cells HQ.out.1.ps.r0
  obtain ⟨zf0, zf1, zf2, zf3, zf4, zf5, zf6, zf7⟩ := hdB_free HQ.out.1.ps.r0
  obtain ⟨zn0, zn1, zn2, zn3, zn4, zn5, zn6, zn7⟩ := hdB_cells HQ.out.1.ps.r1
  have hfl := faultS_t (w.heap.size + 1 + 1) _ _ w3.drew HQ.out.1.ps.rd.drewX
  go_wp2_with fail
  go_region_with (go_at_call 38; refine hfl.mono ?_; rintro e wz ⟨rfl, hwz⟩; rw [hwz]; clear hwz wz)
  all_goals (go_wp2_with fail)
  all_goals (refine bodyPost_ret (v := .tuple #[.agg #[.int .i64 0, .int .i64 0, .slice none 0 0, .slice none 0 0, .slice none 0 0, .int .i64 0, .int .i64 0, .int .i64 0], .int .i64 0, .int .i64 2]) ?_ rfl ?_)
  all_goals first
    | exact results_row_tmp2 (t := 24) rfl _ _ w.heap.size _ (fr := (0, 0)) _ _ _ rfl rfl rfl HQ.out.1.ps.zendD.2 Tryd.underlying24 rfl infoHd
    | exact ⟨HQ.out.1.ps.zendD.1, Or.inl ⟨2, HX.out.1.trans HX.out.2.1, rfl⟩⟩
set_option maxRecDepth 20000 in
set_option maxHeartbeats 4000000 in
theorem peekS_l03 (b off n cap m : Nat) (xs : List Int) (w : World) (hl : Lies w b off n cap xs) (hB : Bytes xs) (hn : n ≤ 65536) (h1 : 1 ≤ n) (hm : m ≤ 8) (hF : ¬ vals (sub xs 0 1) < 128) (h6 : ¬ n < 6) (L1 : Nat) (hL1 : vals (sub xs 5 1) = (L1 : Int)) (h81 : 8 < L1) :
    Calls Tryd.prog 27 #[.slice (some ⟨b, off, none⟩) n cap, .int .i64 m] w fun e w' => PkPost xs m w e w' := by
  have hlen := hl.len
  have P0 := ps_new w (.slice (some ⟨b, off, none⟩) n cap)
  have hbg : b ≠ w.heap.size + 1 + 1 := by have := hl.lt; omega
  have hf := fixedS_ok (w.heap.size + 1 + 1) b off n cap 0 1 xs _ P0.rd (hl.below P0.bel) hB hbg hn (by omega) (by decide) (by decide)
  have eP := pk_long xs m (by omega) (by omega) hm hF
  have e : pkLong xs (vals (sub xs 0 1)) = .error 3 := pkLong_2 (by omega) (cid_e2 xs 5 L1 (by omega) hL1 h81)
  have d1 : decide (vals (sub xs 0 1) < 64) = false := decide_eq_false (by omega)
  have d1b : decide (vals (sub xs 0 1) < 128) = false := decide_eq_false hF
  have HX : Hid _ := And.intro eP (And.intro e (And.intro P0 (And.intro hl (And.intro hB (And.intro hn (And.intro hbg (And.intro hlen (And.intro h6 (And.intro hL1 h81)))))))))
  clear eP e P0 hl hB hbg hlen hF hn h1 h6 hL1 h81
  obtain ⟨f, hfe⟩ : ∃ f, f = vals (sub xs 0 1) := ⟨_, rfl⟩
  rw [← hfe] at hf d1 d1b
  have HFE : Hid _ := And.intro hfe True.intro
  clear hfe
  go_enter Tryd.func27, Tryd.ntmps27
  go_wp2_with fail
  go_at_call 36
  refine hf.mono ?_
  rintro e w1 ⟨rfl, r1, c1⟩
  clear hf
  have HA : Hid _ := And.intro (HX.out.2.2.1.next r1 c1) True.intro
  have f1 := HA.out.1.rd.c2
  clear r1 c1
  have hv := fixedS_ok (w.heap.size + 1 + 1) b off n cap (0 + 1) 4 xs w1 HA.out.1.rd (HX.out.2.2.2.1.below HA.out.1.bel) HX.out.2.2.2.2.1 HX.out.2.2.2.2.2.2.1 HX.out.2.2.2.2.2.1 (by have a0 := HX.out.2.2.2.2.2.2.2.2.1; omega) (by decide) (by decide)
  obtain ⟨V, hVe⟩ : ∃ V, V = vals (sub xs (0 + 1) 4) := ⟨_, rfl⟩
  rw [← hVe] at hv
  have HVE : Hid _ := And.intro hVe True.intro
  clear hVe
  go_wp2_with fail
  go_at_call 36
  refine hv.mono ?_
  rintro e w2 ⟨rfl, r2, c2⟩
  clear hv f1
  have HC : Hid _ := And.intro (ph_new (HA.out.1.next r2 c2) V) True.intro
  clear r2 c2
  have hc := fixedS_ok (w.heap.size + 1 + 1) b off n cap 5 1 xs _ (show srB _ _ _ ((5 : Nat) : Int) _ from HC.out.1.ps.rd) (HX.out.2.2.2.1.below HC.out.1.ps.bel) HX.out.2.2.2.2.1 HX.out.2.2.2.2.2.2.1 HX.out.2.2.2.2.2.1 (by have a0 := HX.out.2.2.2.2.2.2.2.2.1; omega) (by decide) (by decide)
  rw [HX.out.2.2.2.2.2.2.2.2.2.1] at hc
  go_wp2_with fail
  go_at_call 36
  refine hc.mono ?_
  rintro e w3 ⟨rfl, r3, c3⟩
  clear hc
  have HE3 : Hid _ := And.intro (HC.out.1.next r3 c3) (Nat.le_trans HC.out.1.ps.bel.size c3.size)
  have f3 := HE3.out.1.ps.rd.c2
  clear r3 c3
  have b1 : decide ((8 : Int) < (L1 : Int)) = true := decide_eq_true (by have a0 := HX.out.2.2.2.2.2.2.2.2.2.2; omega)
  obtain ⟨zc0, zc1, zc2, zc3, zc4, zc5, zc6, zc7⟩ := hdB_cells HE3.out.1.ps.r0
  obtain ⟨zf0, zf1, zf2, zf3, zf4, zf5, zf6, zf7⟩ := hdB_free HE3.out.1.ps.r0
  obtain ⟨zn0, zn1, zn2, zn3, zn4, zn5, zn6, zn7⟩ := hdB_cells HE3.out.1.ps.r1
  have hfl := faultS_f (w.heap.size + 1 + 1) _ _ w3.drew HE3.out.1.ps.rd.drewX
  go_wp2_with fail
  go_region_with (go_at_call 38; refine hfl.mono ?_; rintro e wz ⟨rfl, hwz⟩; rw [hwz]; clear hwz wz)
  all_goals (go_wp2_with fail)
  all_goals (refine bodyPost_ret (v := .tuple #[.agg #[.int .i64 0, .int .i64 0, .slice none 0 0, .slice none 0 0, .slice none 0 0, .int .i64 0, .int .i64 0, .int .i64 0], .int .i64 0, .int .i64 3]) ?_ rfl ?_)
  all_goals first
    | exact results_row_tmp2 (t := 24) rfl _ _ w.heap.size _ (fr := (0, 0)) _ _ _ rfl rfl rfl HE3.out.1.ps.zendD.2 Tryd.underlying24 rfl infoHd
    | exact ⟨HE3.out.1.ps.zendD.1, Or.inl ⟨3, HX.out.1.trans HX.out.2.1, rfl⟩⟩
set_option maxRecDepth 20000 in
set_option maxHeartbeats 4000000 in
theorem peekS_l04 (b off n cap m : Nat) (xs : List Int) (w : World) (hl : Lies w b off n cap xs) (hB : Bytes xs) (hn : n ≤ 65536) (h1 : 1 ≤ n) (hm : m ≤ 8) (hF : ¬ vals (sub xs 0 1) < 128) (h6 : ¬ n < 6) (L1 : Nat) (hL1 : vals (sub xs 5 1) = (L1 : Int)) (h81 : ¬ 8 < L1) (hs1 : n < 6 + L1) :
    Calls Tryd.prog 27 #[.slice (some ⟨b, off, none⟩) n cap, .int .i64 m] w fun e w' => PkPost xs m w e w' := by
  have hlen := hl.len
  have P0 := ps_new w (.slice (some ⟨b, off, none⟩) n cap)
  have hbg : b ≠ w.heap.size + 1 + 1 := by have := hl.lt; omega
  have hf := fixedS_ok (w.heap.size + 1 + 1) b off n cap 0 1 xs _ P0.rd (hl.below P0.bel) hB hbg hn (by omega) (by decide) (by decide)
  have eP := pk_long xs m (by omega) (by omega) hm hF
  have e : pkLong xs (vals (sub xs 0 1)) = .error 2 := pkLong_2 (by omega) (cid_e3 xs 5 L1 (by omega) hL1 h81 (by omega))
  have d1 : decide (vals (sub xs 0 1) < 64) = false := decide_eq_false (by omega)
  have d1b : decide (vals (sub xs 0 1) < 128) = false := decide_eq_false hF
  have HX : Hid _ := And.intro eP (And.intro e (And.intro P0 (And.intro hl (And.intro hB (And.intro hn (And.intro hbg (And.intro hlen (And.intro h6 (And.intro hL1 (And.intro h81 hs1))))))))))
  clear eP e P0 hl hB hbg hlen hF hn h1 h6 hL1 h81 hs1
  obtain ⟨f, hfe⟩ : ∃ f, f = vals (sub xs 0 1) := ⟨_, rfl⟩
  rw [← hfe] at hf d1 d1b
  have HFE : Hid _ := And.intro hfe True.intro
  clear hfe
  go_enter Tryd.func27, Tryd.ntmps27
  go_wp2_with fail
  go_at_call 36
  refine hf.mono ?_
  rintro e w1 ⟨rfl, r1, c1⟩
  clear hf
  have HA : Hid _ := And.intro (HX.out.2.2.1.next r1 c1) True.intro
  have f1 := HA.out.1.rd.c2
  clear r1 c1
  have hv := fixedS_ok (w.heap.size + 1 + 1) b off n cap (0 + 1) 4 xs w1 HA.out.1.rd (HX.out.2.2.2.1.below HA.out.1.bel) HX.out.2.2.2.2.1 HX.out.2.2.2.2.2.2.1 HX.out.2.2.2.2.2.1 (by have a0 := HX.out.2.2.2.2.2.2.2.2.1; omega) (by decide) (by decide)
  obtain ⟨V, hVe⟩ : ∃ V, V = vals (sub xs (0 + 1) 4) := ⟨_, rfl⟩
  rw [← hVe] at hv
  have HVE : Hid _ := And.intro hVe True.intro
  clear hVe
  go_wp2_with fail
  go_at_call 36
  refine hv.mono ?_
  rintro e w2 ⟨rfl, r2, c2⟩
  clear hv f1
  have HC : Hid _ := And.intro (ph_new (HA.out.1.next r2 c2) V) True.intro
  clear r2 c2
  have hc := fixedS_ok (w.heap.size + 1 + 1) b off n cap 5 1 xs _ (show srB _ _ _ ((5 : Nat) : Int) _ from HC.out.1.ps.rd) (HX.out.2.2.2.1.below HC.out.1.ps.bel) HX.out.2.2.2.2.1 HX.out.2.2.2.2.2.2.1 HX.out.2.2.2.2.2.1 (by have a0 := HX.out.2.2.2.2.2.2.2.2.1; omega) (by decide) (by decide)
  rw [HX.out.2.2.2.2.2.2.2.2.2.1] at hc
  go_wp2_with fail
  go_at_call 36
  refine hc.mono ?_
  rintro e w3 ⟨rfl, r3, c3⟩
  clear hc
  have HE3 : Hid _ := And.intro (HC.out.1.next r3 c3) (Nat.le_trans HC.out.1.ps.bel.size c3.size)
  have f3 := HE3.out.1.ps.rd.c2
  clear r3 c3
  have ht := takeS_no (w.heap.size + 1 + 1) (some ⟨b, off, none⟩) n cap ((5 + 1 : Nat) : Int) L1 false w3 HE3.out.1.ps.rd ⟨by omega, by have a0 := HX.out.2.2.2.2.2.2.2.2.1; omega⟩ (by have a0 := HX.out.2.2.2.2.2.1; omega) (Or.inr (by have a0 := HX.out.2.2.2.2.2.2.2.2.2.2.2; omega))
  have b1 : decide ((8 : Int) < (L1 : Int)) = false := decide_eq_false (by have a0 := HX.out.2.2.2.2.2.2.2.2.2.2.1; omega)
  go_wp2_with fail
  go_at_call 37
  refine ht.mono ?_
  rintro e w4 ⟨q, rfl, hq, o4, r4, c4⟩
  clear ht f3 o4 hq
  have HT4 := HE3.out.1.next r4 c4
  have s2 : w4.cell? ⟨w2.heap.size, 2, none⟩ = some (.slice none 0 0) := (hdB_cells HT4.hd).2.2.1
  have s2f : w4.frozen? ⟨w2.heap.size, 2, none⟩ = false := (hdB_free HT4.hd).2.2.1
  have HF4 : Hid _ := And.intro (HT4.set2 (.slice (some ⟨q, 0, none⟩) 0 0)) True.intro
  clear HT4 r4 c4
  have hc := fixedS_no (w.heap.size + 1 + 1) (some ⟨b, off, none⟩) n cap ((5 + 1 : Nat) : Int) 1 true _ HF4.out.1.ps.rd ⟨by omega, by have a0 := HX.out.2.2.2.2.2.2.2.2.1; omega⟩ (by have a0 := HX.out.2.2.2.2.2.1; omega) (Or.inl rfl)
  go_wp2_with fail
  go_at_call 36
  refine hc.mono ?_
  rintro e w5 ⟨rfl, r5, c5⟩
  clear hc s2 s2f b1
  have HQ : Hid _ := And.intro (HF4.out.1.next r5 c5) True.intro
  have f5 := HQ.out.1.ps.rd.c2
  clear r5 c5
  obtain ⟨zc0, zc1, zc2, zc3, zc4, zc5, zc6, zc7⟩ := hdB_cells HQ.out.1.ps.r0
  obtain ⟨zf0, zf1, zf2, zf3, zf4, zf5, zf6, zf7⟩ := hdB_free HQ.out.1.ps.r0
  obtain ⟨zn0, zn1, zn2, zn3, zn4, zn5, zn6, zn7⟩ := hdB_cells HQ.out.1.ps.r1
  have hfl := faultS_t (w.heap.size + 1 + 1) _ _ w5.drew HQ.out.1.ps.rd.drewX
  go_wp2_with fail
  go_region_with (go_at_call 38; refine hfl.mono ?_; rintro e wz ⟨rfl, hwz⟩; rw [hwz]; clear hwz wz)
  all_goals (go_wp2_with fail)
  all_goals (refine bodyPost_ret (v := .tuple #[.agg #[.int .i64 0, .int .i64 0, .slice none 0 0, .slice none 0 0, .slice none 0 0, .int .i64 0, .int .i64 0, .int .i64 0], .int .i64 0, .int .i64 2]) ?_ rfl ?_)
  all_goals first
    | exact results_row_tmp2 (t := 24) rfl _ _ w.heap.size _ (fr := (0, 0)) _ _ _ rfl rfl rfl HQ.out.1.ps.zendD.2 Tryd.underlying24 rfl infoHd
    | exact ⟨HQ.out.1.ps.zendD.1, Or.inl ⟨2, HX.out.1.trans HX.out.2.1, rfl⟩⟩
set_option maxRecDepth 20000 in
set_option maxHeartbeats 4000000 in
theorem peekS_l05 (b off n cap m : Nat) (xs : List Int) (w : World) (hl : Lies w b off n cap xs) (hB : Bytes xs) (hn : n ≤ 65536) (h1 : 1 ≤ n) (hm : m ≤ 8) (hF : ¬ vals (sub xs 0 1) < 128) (h6 : ¬ n < 6) (L1 : Nat) (hL1 : vals (sub xs 5 1) = (L1 : Int)) (h81 : ¬ 8 < L1) (hs1 : ¬ n < 6 + L1) (h7 : n < 7 + L1) :
    Calls Tryd.prog 27 #[.slice (some ⟨b, off, none⟩) n cap, .int .i64 m] w fun e w' => PkPost xs m w e w' := by
  have hlen := hl.len
  have P0 := ps_new w (.slice (some ⟨b, off, none⟩) n cap)
  have hbg : b ≠ w.heap.size + 1 + 1 := by have := hl.lt; omega
  have hf := fixedS_ok (w.heap.size + 1 + 1) b off n cap 0 1 xs _ P0.rd (hl.below P0.bel) hB hbg hn (by omega) (by decide) (by decide)
  have eP := pk_long xs m (by omega) (by omega) hm hF
  have e : pkLong xs (vals (sub xs 0 1)) = .error 2 := pkLong_3 (by omega) (cid_ok xs 5 L1 (by omega) hL1 h81 (by omega)) (cid_e1 xs _ (by omega))
  have d1 : decide (vals (sub xs 0 1) < 64) = false := decide_eq_false (by omega)
  have d1b : decide (vals (sub xs 0 1) < 128) = false := decide_eq_false hF
  have HX : Hid _ := And.intro eP (And.intro e (And.intro P0 (And.intro hl (And.intro hB (And.intro hn (And.intro hbg (And.intro hlen (And.intro h6 (And.intro hL1 (And.intro h81 (And.intro hs1 h7)))))))))))
  clear eP e P0 hl hB hbg hlen hF hn h1 h6 hL1 h81 hs1 h7
  obtain ⟨f, hfe⟩ : ∃ f, f = vals (sub xs 0 1) := ⟨_, rfl⟩
  rw [← hfe] at hf d1 d1b
  have HFE : Hid _ := And.intro hfe True.intro
  clear hfe
  go_enter Tryd.func27, Tryd.ntmps27
  go_wp2_with fail
  go_at_call 36
  refine hf.mono ?_
  rintro e w1 ⟨rfl, r1, c1⟩
  clear hf
  have HA : Hid _ := And.intro (HX.out.2.2.1.next r1 c1) True.intro
  have f1 := HA.out.1.rd.c2
  clear r1 c1
  have hv := fixedS_ok (w.heap.size + 1 + 1) b off n cap (0 + 1) 4 xs w1 HA.out.1.rd (HX.out.2.2.2.1.below HA.out.1.bel) HX.out.2.2.2.2.1 HX.out.2.2.2.2.2.2.1 HX.out.2.2.2.2.2.1 (by have a0 := HX.out.2.2.2.2.2.2.2.2.1; omega) (by decide) (by decide)
  obtain ⟨V, hVe⟩ : ∃ V, V = vals (sub xs (0 + 1) 4) := ⟨_, rfl⟩
  rw [← hVe] at hv
  have HVE : Hid _ := And.intro hVe True.intro
  clear hVe
  go_wp2_with fail
  go_at_call 36
  refine hv.mono ?_
  rintro e w2 ⟨rfl, r2, c2⟩
  clear hv f1
  have HC : Hid _ := And.intro (ph_new (HA.out.1.next r2 c2) V) True.intro
  clear r2 c2
  have hc := fixedS_ok (w.heap.size + 1 + 1) b off n cap 5 1 xs _ (show srB _ _ _ ((5 : Nat) : Int) _ from HC.out.1.ps.rd) (HX.out.2.2.2.1.below HC.out.1.ps.bel) HX.out.2.2.2.2.1 HX.out.2.2.2.2.2.2.1 HX.out.2.2.2.2.2.1 (by have a0 := HX.out.2.2.2.2.2.2.2.2.1; omega) (by decide) (by decide)
  rw [HX.out.2.2.2.2.2.2.2.2.2.1] at hc
  go_wp2_with fail
  go_at_call 36
  refine hc.mono ?_
  rintro e w3 ⟨rfl, r3, c3⟩
  clear hc
  have HE3 : Hid _ := And.intro (HC.out.1.next r3 c3) (Nat.le_trans HC.out.1.ps.bel.size c3.size)
  have f3 := HE3.out.1.ps.rd.c2
  clear r3 c3
  have ht := takeS_ok (w.heap.size + 1 + 1) b off n cap (5 + 1) L1 xs w3 HE3.out.1.ps.rd (HX.out.2.2.2.1.below HE3.out.1.ps.bel) HX.out.2.2.2.2.2.2.1 HX.out.2.2.2.2.2.1 (by have a0 := HX.out.2.2.2.2.2.2.2.2.2.2.2.1; omega)
  have b1 : decide ((8 : Int) < (L1 : Int)) = false := decide_eq_false (by have a0 := HX.out.2.2.2.2.2.2.2.2.2.2.1; omega)
  go_wp2_with fail
  go_at_call 37
  refine ht.mono ?_
  rintro e w4 ⟨vd, rfl, o4, r4, c4⟩
  clear ht f3
  obtain ⟨da, dp, ed⟩ := (row_of_owns o4).form
  rw [sub_len xs (5 + 1) L1 (by have a0 := HX.out.2.2.2.2.2.2.2.1; have a1 := HX.out.2.2.2.2.2.2.2.2.2.2.2.1; omega)] at ed
  subst ed
  have HT4 := HE3.out.1.next r4 c4
  have s2 : w4.cell? ⟨w2.heap.size, 2, none⟩ = some (.slice none 0 0) := (hdB_cells HT4.hd).2.2.1
  have s2f : w4.frozen? ⟨w2.heap.size, 2, none⟩ = false := (hdB_free HT4.hd).2.2.1
  have HF4 : Hid _ := And.intro (HT4.set2 (.slice da L1 dp)) (And.intro o4 c4.size)
  clear HT4 r4 c4 o4
  have hc := fixedS_no (w.heap.size + 1 + 1) (some ⟨b, off, none⟩) n cap ((6 + L1 : Nat) : Int) 1 false _ (show srB _ _ _ ((6 + L1 : Nat) : Int) _ from HF4.out.1.ps.rd) ⟨by omega, by have a0 := HX.out.2.2.2.2.2.2.2.2.2.2.2.1; omega⟩ (by have a0 := HX.out.2.2.2.2.2.1; omega) (Or.inr (by have a0 := HX.out.2.2.2.2.2.2.2.2.2.2.2.2; omega))
  go_wp2_with fail
  go_at_call 36
  refine hc.mono ?_
  rintro e w5 ⟨rfl, r5, c5⟩
  clear hc s2 s2f b1
  have HQ : Hid _ := And.intro (HF4.out.1.next r5 c5) True.intro
  have f5 := HQ.out.1.ps.rd.c2
  clear r5 c5
  obtain ⟨zc0, zc1, zc2, zc3, zc4, zc5, zc6, zc7⟩ := hdB_cells HQ.out.1.ps.r0
  obtain ⟨zf0, zf1, zf2, zf3, zf4, zf5, zf6, zf7⟩ := hdB_free HQ.out.1.ps.r0
  obtain ⟨zn0, zn1, zn2, zn3, zn4, zn5, zn6, zn7⟩ := hdB_cells HQ.out.1.ps.r1
  have hfl := faultS_t (w.heap.size + 1 + 1) _ _ w5.drew HQ.out.1.ps.rd.drewX
  go_wp2_with fail
  go_region_with (go_at_call 38; refine hfl.mono ?_; rintro e wz ⟨rfl, hwz⟩; rw [hwz]; clear hwz wz)
  all_goals (go_wp2_with fail)
  all_goals (refine bodyPost_ret (v := .tuple #[.agg #[.int .i64 0, .int .i64 0, .slice none 0 0, .slice none 0 0, .slice none 0 0, .int .i64 0, .int .i64 0, .int .i64 0], .int .i64 0, .int .i64 2]) ?_ rfl ?_)
  all_goals first
    | exact results_row_tmp2 (t := 24) rfl _ _ w.heap.size _ (fr := (0, 0)) _ _ _ rfl rfl rfl HQ.out.1.ps.zendD.2 Tryd.underlying24 rfl infoHd
    | exact ⟨HQ.out.1.ps.zendD.1, Or.inl ⟨2, HX.out.1.trans HX.out.2.1, rfl⟩⟩
set_option maxRecDepth 20000 in
set_option maxHeartbeats 4000000 in
theorem peekS_l06 (b off n cap m : Nat) (xs : List Int) (w : World) (hl : Lies w b off n cap xs) (hB : Bytes xs) (hn : n ≤ 65536) (h1 : 1 ≤ n) (hm : m ≤ 8) (hF : ¬ vals (sub xs 0 1) < 128) (h6 : ¬ n < 6) (L1 : Nat) (hL1 : vals (sub xs 5 1) = (L1 : Int)) (h81 : ¬ 8 < L1) (hs1 : ¬ n < 6 + L1) (h7 : ¬ n < 7 + L1) (L2 : Nat) (hL2 : vals (sub xs (6 + L1) 1) = (L2 : Int)) (h82 : 8 < L2) :
    Calls Tryd.prog 27 #[.slice (some ⟨b, off, none⟩) n cap, .int .i64 m] w fun e w' => PkPost xs m w e w' := by
  have hlen := hl.len
  have P0 := ps_new w (.slice (some ⟨b, off, none⟩) n cap)
  have hbg : b ≠ w.heap.size + 1 + 1 := by have := hl.lt; omega
  have hf := fixedS_ok (w.heap.size + 1 + 1) b off n cap 0 1 xs _ P0.rd (hl.below P0.bel) hB hbg hn (by omega) (by decide) (by decide)
  have eP := pk_long xs m (by omega) (by omega) hm hF
  have e : pkLong xs (vals (sub xs 0 1)) = .error 3 := pkLong_3 (by omega) (cid_ok xs 5 L1 (by omega) hL1 h81 (by omega)) (show pkCid xs (5 + 1 + L1) = _ by rw [show 5 + 1 + L1 = 6 + L1 from rfl]; exact cid_e2 xs (6 + L1) L2 (by omega) hL2 h82)
  have d1 : decide (vals (sub xs 0 1) < 64) = false := decide_eq_false (by omega)
  have d1b : decide (vals (sub xs 0 1) < 128) = false := decide_eq_false hF
  have HX : Hid _ := And.intro eP (And.intro e (And.intro P0 (And.intro hl (And.intro hB (And.intro hn (And.intro hbg (And.intro hlen (And.intro h6 (And.intro hL1 (And.intro h81 (And.intro hs1 (And.intro h7 (And.intro hL2 h82)))))))))))))
  clear eP e P0 hl hB hbg hlen hF hn h1 h6 hL1 h81 hs1 h7 hL2 h82
  obtain ⟨f, hfe⟩ : ∃ f, f = vals (sub xs 0 1) := ⟨_, rfl⟩
  rw [← hfe] at hf d1 d1b
  have HFE : Hid _ := And.intro hfe True.intro
  clear hfe
  go_enter Tryd.func27, Tryd.ntmps27
  go_wp2_with fail
  go_at_call 36
  refine hf.mono ?_
  rintro e w1 ⟨rfl, r1, c1⟩
  clear hf
  have HA : Hid _ := And.intro (HX.out.2.2.1.next r1 c1) True.intro
  have f1 := HA.out.1.rd.c2
  clear r1 c1
  have hv := fixedS_ok (w.heap.size + 1 + 1) b off n cap (0 + 1) 4 xs w1 HA.out.1.rd (HX.out.2.2.2.1.below HA.out.1.bel) HX.out.2.2.2.2.1 HX.out.2.2.2.2.2.2.1 HX.out.2.2.2.2.2.1 (by have a0 := HX.out.2.2.2.2.2.2.2.2.1; omega) (by decide) (by decide)
  obtain ⟨V, hVe⟩ : ∃ V, V = vals (sub xs (0 + 1) 4) := ⟨_, rfl⟩
  rw [← hVe] at hv
  have HVE : Hid _ := And.intro hVe True.intro
  clear hVe
  go_wp2_with fail
  go_at_call 36
  refine hv.mono ?_
  rintro e w2 ⟨rfl, r2, c2⟩
  clear hv f1
  have HC : Hid _ := And.intro (ph_new (HA.out.1.next r2 c2) V) True.intro
  clear r2 c2
  have hc := fixedS_ok (w.heap.size + 1 + 1) b off n cap 5 1 xs _ (show srB _ _ _ ((5 : Nat) : Int) _ from HC.out.1.ps.rd) (HX.out.2.2.2.1.below HC.out.1.ps.bel) HX.out.2.2.2.2.1 HX.out.2.2.2.2.2.2.1 HX.out.2.2.2.2.2.1 (by have a0 := HX.out.2.2.2.2.2.2.2.2.1; omega) (by decide) (by decide)
  rw [HX.out.2.2.2.2.2.2.2.2.2.1] at hc
  go_wp2_with fail
  go_at_call 36
  refine hc.mono ?_
  rintro e w3 ⟨rfl, r3, c3⟩
  clear hc
  have HE3 : Hid _ := And.intro (HC.out.1.next r3 c3) (Nat.le_trans HC.out.1.ps.bel.size c3.size)
  have f3 := HE3.out.1.ps.rd.c2
  clear r3 c3
  have ht := takeS_ok (w.heap.size + 1 + 1) b off n cap (5 + 1) L1 xs w3 HE3.out.1.ps.rd (HX.out.2.2.2.1.below HE3.out.1.ps.bel) HX.out.2.2.2.2.2.2.1 HX.out.2.2.2.2.2.1 (by have a0 := HX.out.2.2.2.2.2.2.2.2.2.2.2.1; omega)
  have b1 : decide ((8 : Int) < (L1 : Int)) = false := decide_eq_false (by have a0 := HX.out.2.2.2.2.2.2.2.2.2.2.1; omega)
  go_wp2_with fail
  go_at_call 37
  refine ht.mono ?_
  rintro e w4 ⟨vd, rfl, o4, r4, c4⟩
  clear ht f3
  obtain ⟨da, dp, ed⟩ := (row_of_owns o4).form
  rw [sub_len xs (5 + 1) L1 (by have a0 := HX.out.2.2.2.2.2.2.2.1; have a1 := HX.out.2.2.2.2.2.2.2.2.2.2.2.1; omega)] at ed
  subst ed
  have HT4 := HE3.out.1.next r4 c4
  have s2 : w4.cell? ⟨w2.heap.size, 2, none⟩ = some (.slice none 0 0) := (hdB_cells HT4.hd).2.2.1
  have s2f : w4.frozen? ⟨w2.heap.size, 2, none⟩ = false := (hdB_free HT4.hd).2.2.1
  have HF4 : Hid _ := And.intro (HT4.set2 (.slice da L1 dp)) (And.intro o4 c4.size)
  clear HT4 r4 c4 o4
  have hc := fixedS_ok (w.heap.size + 1 + 1) b off n cap (6 + L1) 1 xs _ (show srB _ _ _ ((6 + L1 : Nat) : Int) _ from HF4.out.1.ps.rd) (HX.out.2.2.2.1.below HF4.out.1.ps.bel) HX.out.2.2.2.2.1 HX.out.2.2.2.2.2.2.1 HX.out.2.2.2.2.2.1 (by have a0 := HX.out.2.2.2.2.2.2.2.2.2.2.2.2.1; omega) (by decide) (by decide)
  rw [HX.out.2.2.2.2.2.2.2.2.2.2.2.2.2.1] at hc
  go_wp2_with fail
  go_at_call 36
  refine hc.mono ?_
  rintro e w5 ⟨rfl, r5, c5⟩
  clear hc s2 s2f b1
  have HE5 : Hid _ := And.intro (HF4.out.1.next r5 c5) c5
  have f5 := HE5.out.1.ps.rd.c2
  clear r5 c5
  have b2 : decide ((8 : Int) < (L2 : Int)) = true := decide_eq_true (by have a0 := HX.out.2.2.2.2.2.2.2.2.2.2.2.2.2.2; omega)
  obtain ⟨zc0, zc1, zc2, zc3, zc4, zc5, zc6, zc7⟩ := hdB_cells HE5.out.1.ps.r0
  obtain ⟨zf0, zf1, zf2, zf3, zf4, zf5, zf6, zf7⟩ := hdB_free HE5.out.1.ps.r0
  obtain ⟨zn0, zn1, zn2, zn3, zn4, zn5, zn6, zn7⟩ := hdB_cells HE5.out.1.ps.r1
  have hfl := faultS_f (w.heap.size + 1 + 1) _ _ w5.drew HE5.out.1.ps.rd.drewX
  go_wp2_with fail
  go_region_with (go_at_call 38; refine hfl.mono ?_; rintro e wz ⟨rfl, hwz⟩; rw [hwz]; clear hwz wz)
  all_goals (go_wp2_with fail)
  all_goals (refine bodyPost_ret (v := .tuple #[.agg #[.int .i64 0, .int .i64 0, .slice none 0 0, .slice none 0 0, .slice none 0 0, .int .i64 0, .int .i64 0, .int .i64 0], .int .i64 0, .int .i64 3]) ?_ rfl ?_)
  all_goals first
    | exact results_row_tmp2 (t := 24) rfl _ _ w.heap.size _ (fr := (0, 0)) _ _ _ rfl rfl rfl HE5.out.1.ps.zendD.2 Tryd.underlying24 rfl infoHd
    | exact ⟨HE5.out.1.ps.zendD.1, Or.inl ⟨3, HX.out.1.trans HX.out.2.1, rfl⟩⟩
set_option maxRecDepth 20000 in
set_option maxHeartbeats 4000000 in
theorem peekS_l07 (b off n cap m : Nat) (xs : List Int) (w : World) (hl : Lies w b off n cap xs) (hB : Bytes xs) (hn : n ≤ 65536) (h1 : 1 ≤ n) (hm : m ≤ 8) (hF : ¬ vals (sub xs 0 1) < 128) (h6 : ¬ n < 6) (L1 : Nat) (hL1 : vals (sub xs 5 1) = (L1 : Int)) (h81 : ¬ 8 < L1) (hs1 : ¬ n < 6 + L1) (h7 : ¬ n < 7 + L1) (L2 : Nat) (hL2 : vals (sub xs (6 + L1) 1) = (L2 : Int)) (h82 : ¬ 8 < L2) (hs2 : n < 7 + L1 + L2) :
    Calls Tryd.prog 27 #[.slice (some ⟨b, off, none⟩) n cap, .int .i64 m] w fun e w' => PkPost xs m w e w' := by
  have hlen := hl.len
  have P0 := ps_new w (.slice (some ⟨b, off, none⟩) n cap)
  have hbg : b ≠ w.heap.size + 1 + 1 := by have := hl.lt; omega
  have hf := fixedS_ok (w.heap.size + 1 + 1) b off n cap 0 1 xs _ P0.rd (hl.below P0.bel) hB hbg hn (by omega) (by decide) (by decide)
  have eP := pk_long xs m (by omega) (by omega) hm hF
  have e : pkLong xs (vals (sub xs 0 1)) = .error 2 := pkLong_3 (by omega) (cid_ok xs 5 L1 (by omega) hL1 h81 (by omega)) (show pkCid xs (5 + 1 + L1) = _ by rw [show 5 + 1 + L1 = 6 + L1 from rfl]; exact cid_e3 xs (6 + L1) L2 (by omega) hL2 h82 (by omega))
  have d1 : decide (vals (sub xs 0 1) < 64) = false := decide_eq_false (by omega)
  have d1b : decide (vals (sub xs 0 1) < 128) = false := decide_eq_false hF
  have HX : Hid _ := And.intro eP (And.intro e (And.intro P0 (And.intro hl (And.intro hB (And.intro hn (And.intro hbg (And.intro hlen (And.intro h6 (And.intro hL1 (And.intro h81 (And.intro hs1 (And.intro h7 (And.intro hL2 (And.intro h82 hs2))))))))))))))
  clear eP e P0 hl hB hbg hlen hF hn h1 h6 hL1 h81 hs1 h7 hL2 h82 hs2
  obtain ⟨f, hfe⟩ : ∃ f, f = vals (sub xs 0 1) := ⟨_, rfl⟩
  rw [← hfe] at hf d1 d1b
  have HFE : Hid _ := And.intro hfe True.intro
  clear hfe
  go_enter Tryd.func27, Tryd.ntmps27
  go_wp2_with fail
  go_at_call 36
  refine hf.mono ?_
  rintro e w1 ⟨rfl, r1, c1⟩
  clear hf
  have HA : Hid _ := And.intro (HX.out.2.2.1.next r1 c1) True.intro
  have f1 := HA.out.1.rd.c2
  clear r1 c1
  have hv := fixedS_ok (w.heap.size + 1 + 1) b off n cap (0 + 1) 4 xs w1 HA.out.1.rd (HX.out.2.2.2.1.below HA.out.1.bel) HX.out.2.2.2.2.1 HX.out.2.2.2.2.2.2.1 HX.out.2.2.2.2.2.1 (by have a0 := HX.out.2.2.2.2.2.2.2.2.1; omega) (by decide) (by decide)
  obtain ⟨V, hVe⟩ : ∃ V, V = vals (sub xs (0 + 1) 4) := ⟨_, rfl⟩
  rw [← hVe] at hv
  have HVE : Hid _ := And.intro hVe True.intro
  clear hVe
  go_wp2_with fail
  go_at_call 36
  refine hv.mono ?_
  rintro e w2 ⟨rfl, r2, c2⟩
  clear hv f1
  have HC : Hid _ := And.intro (ph_new (HA.out.1.next r2 c2) V) True.intro
  clear r2 c2
  have hc := fixedS_ok (w.heap.size + 1 + 1) b off n cap 5 1 xs _ (show srB _ _ _ ((5 : Nat) : Int) _ from HC.out.1.ps.rd) (HX.out.2.2.2.1.below HC.out.1.ps.bel) HX.out.2.2.2.2.1 HX.out.2.2.2.2.2.2.1 HX.out.2.2.2.2.2.1 (by have a0 := HX.out.2.2.2.2.2.2.2.2.1; omega) (by decide) (by decide)
  rw [HX.out.2.2.2.2.2.2.2.2.2.1] at hc
  go_wp2_with fail
  go_at_call 36
  refine hc.mono ?_
  rintro e w3 ⟨rfl, r3, c3⟩
  clear hc
  have HE3 : Hid _ := And.intro (HC.out.1.next r3 c3) (Nat.le_trans HC.out.1.ps.bel.size c3.size)
  have f3 := HE3.out.1.ps.rd.c2
  clear r3 c3
  have ht := takeS_ok (w.heap.size + 1 + 1) b off n cap (5 + 1) L1 xs w3 HE3.out.1.ps.rd (HX.out.2.2.2.1.below HE3.out.1.ps.bel) HX.out.2.2.2.2.2.2.1 HX.out.2.2.2.2.2.1 (by have a0 := HX.out.2.2.2.2.2.2.2.2.2.2.2.1; omega)
  have b1 : decide ((8 : Int) < (L1 : Int)) = false := decide_eq_false (by have a0 := HX.out.2.2.2.2.2.2.2.2.2.2.1; omega)
  go_wp2_with fail
  go_at_call 37
  refine ht.mono ?_
  rintro e w4 ⟨vd, rfl, o4, r4, c4⟩
  clear ht f3
  obtain ⟨da, dp, ed⟩ := (row_of_owns o4).form
  rw [sub_len xs (5 + 1) L1 (by have a0 := HX.out.2.2.2.2.2.2.2.1; have a1 := HX.out.2.2.2.2.2.2.2.2.2.2.2.1; omega)] at ed
  subst ed
  have HT4 := HE3.out.1.next r4 c4
  have s2 : w4.cell? ⟨w2.heap.size, 2, none⟩ = some (.slice none 0 0) := (hdB_cells HT4.hd).2.2.1
  have s2f : w4.frozen? ⟨w2.heap.size, 2, none⟩ = false := (hdB_free HT4.hd).2.2.1
  have HF4 : Hid _ := And.intro (HT4.set2 (.slice da L1 dp)) (And.intro o4 c4.size)
  clear HT4 r4 c4 o4
  have hc := fixedS_ok (w.heap.size + 1 + 1) b off n cap (6 + L1) 1 xs _ (show srB _ _ _ ((6 + L1 : Nat) : Int) _ from HF4.out.1.ps.rd) (HX.out.2.2.2.1.below HF4.out.1.ps.bel) HX.out.2.2.2.2.1 HX.out.2.2.2.2.2.2.1 HX.out.2.2.2.2.2.1 (by have a0 := HX.out.2.2.2.2.2.2.2.2.2.2.2.2.1; omega) (by decide) (by decide)
  rw [HX.out.2.2.2.2.2.2.2.2.2.2.2.2.2.1] at hc
  go_wp2_with fail
  go_at_call 36
  refine hc.mono ?_
  rintro e w5 ⟨rfl, r5, c5⟩
  clear hc s2 s2f b1
  have HE5 : Hid _ := And.intro (HF4.out.1.next r5 c5) c5
  have f5 := HE5.out.1.ps.rd.c2
  clear r5 c5
  have ht := takeS_no (w.heap.size + 1 + 1) (some ⟨b, off, none⟩) n cap ((6 + L1 + 1 : Nat) : Int) L2 false w5 HE5.out.1.ps.rd ⟨by omega, by have a0 := HX.out.2.2.2.2.2.2.2.2.2.2.2.2.1; omega⟩ (by have a0 := HX.out.2.2.2.2.2.1; omega) (Or.inr (by have a0 := HX.out.2.2.2.2.2.2.2.2.2.2.2.2.2.2.2; omega))
  have b2 : decide ((8 : Int) < (L2 : Int)) = false := decide_eq_false (by have a0 := HX.out.2.2.2.2.2.2.2.2.2.2.2.2.2.2.1; omega)
  go_wp2_with fail
  go_at_call 37
  refine ht.mono ?_
  rintro e w6 ⟨q, rfl, hq, o6, r6, c6⟩
  clear ht f5 o6 hq
  have HT6 := HE5.out.1.next r6 c6
  have s3 : w6.cell? ⟨w2.heap.size, 3, none⟩ = some (.slice none 0 0) := (hdB_cells HT6.hd).2.2.2.1
  have s3f : w6.frozen? ⟨w2.heap.size, 3, none⟩ = false := (hdB_free HT6.hd).2.2.2.1
  have HF6 : Hid _ := And.intro (HT6.set3 (.slice (some ⟨q, 0, none⟩) 0 0)) True.intro
  have f6 := HF6.out.1.ps.rd.c2
  clear HT6 r6 c6
  obtain ⟨zc0, zc1, zc2, zc3, zc4, zc5, zc6, zc7⟩ := hdB_cells HF6.out.1.ps.r0
  obtain ⟨zf0, zf1, zf2, zf3, zf4, zf5, zf6, zf7⟩ := hdB_free HF6.out.1.ps.r0
  obtain ⟨zn0, zn1, zn2, zn3, zn4, zn5, zn6, zn7⟩ := hdB_cells HF6.out.1.ps.r1
  go_wp2_with fail
  refine bodyPost_ret (v := .tuple #[.agg #[.int .i64 0, .int .i64 0, .slice none 0 0, .slice none 0 0, .slice none 0 0, .int .i64 0, .int .i64 0, .int .i64 0], .int .i64 0, .int .i64 2]) ?_ rfl ?_
  · exact results_row_tmp2 (t := 24) rfl _ _ w.heap.size _ (fr := (0, 0)) _ _ _ rfl rfl rfl HF6.out.1.ps.zend.2 Tryd.underlying24 rfl infoHd
  · exact ⟨HF6.out.1.ps.zend.1, Or.inl ⟨2, HX.out.1.trans HX.out.2.1, rfl⟩⟩
end Go.Proofs.YtbbiinbjgognjaaDoor
