import Derived.Test.YtoalillggafnpaaGreatDoorPjB
import Derived.Deep.RegionWith
namespace Go.Proofs.YtoalillggafnpaaGreatDoor
open Go.RowKit
set_option linter.unusedVariables false

set_option maxRecDepth 20000 in
set_option maxHeartbeats 4000000 in
theorem peekS_l15 (b off n cap m : Nat) (xs : List Int) (w : World) (hl : Lies w b off n cap xs) (hB : Bytes xs) (hn : n ≤ 65536) (h1 : 1 ≤ n) (hm : m ≤ 8) (hF : ¬ vals (sub xs 0 1) < 128) (h6 : ¬ n < 6) (L1 : Nat) (hL1 : vals (sub xs 5 1) = (L1 : Int)) (h81 : ¬ 8 < L1) (hs1 : ¬ n < 6 + L1) (h7 : ¬ n < 7 + L1) (L2 : Nat) (hL2 : vals (sub xs (6 + L1) 1) = (L2 : Int)) (h82 : ¬ 8 < L2) (hs2 : ¬ n < 7 + L1 + L2) (hv0 : ¬ vals (sub xs 1 4) = 0) (hk1 : 192 ≤ vals (sub xs 0 1)) (hk2 : vals (sub xs 0 1) < 208) (hv : ¬ varOK xs (6 + L1 + 1 + L2)) :
    Calls Tryz.prog 38 #[.slice (some ⟨b, off, none⟩) n cap, .int .i64 m] w fun e w' => PkPost xs m w e w' := by
  have hlen := hl.len
  have P0 := ps_new w (.slice (some ⟨b, off, none⟩) n cap)
  have hbg : b ≠ w.heap.size + 1 + 1 := by have := hl.lt; omega
  have hf := fixedS_ok (w.heap.size + 1 + 1) b off n cap 0 1 xs _ P0.rd (hl.below P0.bel) hB hbg hn (by omega) (by decide) (by decide)
  have eP := pk_long xs m (by omega) (by omega) hm hF
  have e : pkLong xs (vals (sub xs 0 1)) = .error 2 := by rw [pkLong_4 (by omega) (cid_ok xs 5 L1 (by omega) hL1 h81 (by omega)) (show pkCid xs (5 + 1 + L1) = .ok _ by rw [show 5 + 1 + L1 = 6 + L1 from rfl]; exact cid_ok xs (6 + L1) L2 (by omega) hL2 h82 (by omega))]; unfold pkTail; have hq : lform (vals (sub xs 0 1)) = 1 := (by unfold lform; rw [if_neg (by omega), if_pos hk2]); rw [if_neg hv0, hq, if_neg (by decide), if_pos rfl]; unfold pkIni; rw [if_neg hv]
  have d1 : decide (vals (sub xs 0 1) < 64) = false := decide_eq_false (by omega)
  have d1b : decide (vals (sub xs 0 1) < 128) = false := decide_eq_false hF
  have HX : Hid _ := And.intro eP (And.intro e (And.intro P0 (And.intro hl (And.intro hB (And.intro hn (And.intro hbg (And.intro hlen (And.intro h6 (And.intro hL1 (And.intro h81 (And.intro hs1 (And.intro h7 (And.intro hL2 (And.intro h82 (And.intro hs2 (And.intro hv0 (And.intro hk1 (And.intro hk2 hv))))))))))))))))))
  clear eP e P0 hl hB hbg hlen hF hn h1 h6 hL1 h81 hs1 h7 hL2 h82 hs2 hv0 hk1 hk2 hv
  obtain ⟨f, hfe⟩ : ∃ f, f = vals (sub xs 0 1) := ⟨_, rfl⟩
  rw [← hfe] at hf d1 d1b
  have HFE : Hid _ := And.intro hfe True.intro
  clear hfe
  go_enter Tryz.func38, Tryz.ntmps38
  go_wp2_with fail
  go_at_call 61
  refine hf.mono ?_
  rintro e w1 ⟨rfl, r1, c1⟩
  clear hf
  have HA : Hid _ := And.intro (HX.out.2.2.1.next r1 c1) True.intro
  have f1 := HA.out.1.rd.c2
  clear r1 c1
  have hv := fixedS_ok (w.heap.size + 1 + 1) b off n cap (0 + 1) 4 xs w1 HA.out.1.rd (HX.out.2.2.2.1.below HA.out.1.bel) HX.out.2.2.2.2.1 HX.out.2.2.2.2.2.2.1 HX.out.2.2.2.2.2.1 (by have a0 := HX.out.2.2.2.2.2.2.2.2.1; omega) (by decide) (by decide)
  obtain ⟨V, hVe⟩ : ∃ V, V = vals (sub xs (0 + 1) 4) := ⟨_, rfl⟩
  rw [← hVe] at hv
  have HVE : Hid _ := And.intro hVe True.intro
  clear hVe
  go_wp2_with fail
  go_at_call 61
  refine hv.mono ?_
  rintro e w2 ⟨rfl, r2, c2⟩
  clear hv f1
  have HC : Hid _ := And.intro (ph_new (HA.out.1.next r2 c2) V) True.intro
  clear r2 c2
  have hc := fixedS_ok (w.heap.size + 1 + 1) b off n cap 5 1 xs _ (show srB _ _ _ ((5 : Nat) : Int) _ from HC.out.1.ps.rd) (HX.out.2.2.2.1.below HC.out.1.ps.bel) HX.out.2.2.2.2.1 HX.out.2.2.2.2.2.2.1 HX.out.2.2.2.2.2.1 (by have a0 := HX.out.2.2.2.2.2.2.2.2.1; omega) (by decide) (by decide)
  rw [HX.out.2.2.2.2.2.2.2.2.2.1] at hc
  go_wp2_with fail
  go_at_call 61
  refine hc.mono ?_
  rintro e w3 ⟨rfl, r3, c3⟩
  clear hc
  have HE3 : Hid _ := And.intro (HC.out.1.next r3 c3) (Nat.le_trans HC.out.1.ps.bel.size c3.size)
  have f3 := HE3.out.1.ps.rd.c2
  clear r3 c3
  have ht := takeS_ok (w.heap.size + 1 + 1) b off n cap (5 + 1) L1 xs w3 HE3.out.1.ps.rd (HX.out.2.2.2.1.below HE3.out.1.ps.bel) HX.out.2.2.2.2.2.2.1 HX.out.2.2.2.2.2.1 (by have a0 := HX.out.2.2.2.2.2.2.2.2.2.2.2.1; omega)
  have b1 : decide ((8 : Int) < (L1 : Int)) = false := decide_eq_false (by have a0 := HX.out.2.2.2.2.2.2.2.2.2.2.1; omega)
  go_wp2_with fail
  go_at_call 62
  refine ht.mono ?_
  rintro e w4 ⟨vd, rfl, o4, r4, c4⟩
  clear ht f3
  obtain ⟨da, dp, ed⟩ := (row_of_owns o4).form
  rw [sub_len xs (5 + 1) L1 (by have a0 := HX.out.2.2.2.2.2.2.2.1; have a1 := HX.out.2.2.2.2.2.2.2.2.2.2.2.1; omega)] at ed
  subst ed
  have HT4 := HE3.out.1.next r4 c4
  have s2 : w4.cell? ⟨w2.heap.size, 2, none⟩ = some (.slice none 0 0) := (hdB_cells HT4.hd).2.2.1
  have s2f : w4.frozen? ⟨w2.heap.size, 2, none⟩ = false := (hdB_free HT4.hd).2.2.1
  have HF4 : Hid _ := And.intro (HT4.set2 (.slice da L1 dp)) (And.intro o4 c4.size)
  clear HT4 r4 c4 o4
  have hc := fixedS_ok (w.heap.size + 1 + 1) b off n cap (6 + L1) 1 xs _ (show srB _ _ _ ((6 + L1 : Nat) : Int) _ from HF4.out.1.ps.rd) (HX.out.2.2.2.1.below HF4.out.1.ps.bel) HX.out.2.2.2.2.1 HX.out.2.2.2.2.2.2.1 HX.out.2.2.2.2.2.1 (by have a0 := HX.out.2.2.2.2.2.2.2.2.2.2.2.2.1; omega) (by decide) (by decide)
  rw [HX.out.2.2.2.2.2.2.2.2.2.2.2.2.2.1] at hc
  go_wp2_with fail
  go_at_call 61
  refine hc.mono ?_
  rintro e w5 ⟨rfl, r5, c5⟩
  clear hc s2 s2f b1
  have HE5 : Hid _ := And.intro (HF4.out.1.next r5 c5) c5
  have f5 := HE5.out.1.ps.rd.c2
  clear r5 c5
  have ht := takeS_ok (w.heap.size + 1 + 1) b off n cap (6 + L1 + 1) L2 xs w5 HE5.out.1.ps.rd (HX.out.2.2.2.1.below HE5.out.1.ps.bel) HX.out.2.2.2.2.2.2.1 HX.out.2.2.2.2.2.1 (by have a0 := HX.out.2.2.2.2.2.2.2.2.2.2.2.2.2.2.2.1; omega)
  have b2 : decide ((8 : Int) < (L2 : Int)) = false := decide_eq_false (by have a0 := HX.out.2.2.2.2.2.2.2.2.2.2.2.2.2.2.1; omega)
  go_wp2_with fail
  go_at_call 62
  refine ht.mono ?_
  rintro e w6 ⟨vs, rfl, o6, r6, c6⟩
  clear ht f5
  obtain ⟨sa, sp, es⟩ := (row_of_owns o6).form
  rw [sub_len xs (6 + L1 + 1) L2 (by have a0 := HX.out.2.2.2.2.2.2.2.1; have a1 := HX.out.2.2.2.2.2.2.2.2.2.2.2.2.2.2.2.1; omega)] at es
  subst es
  have HT6 := HE5.out.1.next r6 c6
  have s3 : w6.cell? ⟨w2.heap.size, 3, none⟩ = some (.slice none 0 0) := (hdB_cells HT6.hd).2.2.2.1
  have s3f : w6.frozen? ⟨w2.heap.size, 3, none⟩ = false := (hdB_free HT6.hd).2.2.2.1
  have hbl : w2.heap.size < w3.heap.size := (Array.getElem?_eq_some_iff.1 HE3.out.1.hd).1
  have hgl := HE3.out.1.ps.rd.lt
  have hs45 : w4.heap.size ≤ w5.heap.size := by have h := HE5.out.2.size; rw [sizeS] at h; exact h
  have hs34 : w3.heap.size ≤ w4.heap.size := HF4.out.2.2
  have cZ : Chg (SG (w.heap.size + 1 + 1) w2.heap.size) w4 (w6.setCell ⟨w2.heap.size, 3, none⟩ (.slice sa L2 sp)) := ((((Chg.refl (SG (w.heap.size + 1 + 1) w2.heap.size) w4).setP 2 (.slice da L1 dp)).trans HE5.out.2.toG).trans c6.toG).setP 3 (.slice sa L2 sp)
  have od := cZ.ownsG HF4.out.2.1 hgl hbl
  have os : (w6.setCell ⟨w2.heap.size, 3, none⟩ (.slice sa L2 sp)).ownsRow w5.heap.size 5 1 (.slice sa L2 sp) L2 ((sub xs (6 + L1 + 1) L2).map (Value.int .u8)) := owns_set o6 (by omega)
  have HO : Hid _ := And.intro od (And.intro os (And.intro (apart_of HF4.out.2.1 o6 hs45) (And.intro hgl (And.intro hbl (And.intro (Nat.le_trans hs34 hs45) (by have := HE3.out.2; omega : w.heap.size < w3.heap.size))))))
  have HF6 : Hid _ := And.intro (HT6.set3 (.slice sa L2 sp)) True.intro
  have f6 := HF6.out.1.ps.rd.c2
  have v6 := (hdB_cells HF6.out.1.hd).2.1
  clear HT6 r6 c6 o6 cZ od os hgl hbl hs45 hs34
  have z0 : (V == 0) = false := by rw [HVE.out.1]; have h := HX.out.2.2.2.2.2.2.2.2.2.2.2.2.2.2.2.2.1; simpa using h
  have z1 : decide (f < 192) = false := by rw [HFE.out.1]; exact decide_eq_false (by have a0 := HX.out.2.2.2.2.2.2.2.2.2.2.2.2.2.2.2.2.2.1; omega)
  have zw : IntKind.i64.wrap (f - 192) = f - 192 := by rw [IntKind.wrap_i64, HFE.out.1]; have h1 := HX.out.2.2.2.2.2.2.2.2.2.2.2.2.2.2.2.2.2.1; have h2 := HX.out.2.2.2.2.2.2.2.2.2.2.2.2.2.2.2.2.2.2.1; omega
  have zq : (f - 192).tdiv 16 = 0 := by rw [HFE.out.1, Int.tdiv_eq_ediv_of_nonneg (by have h1 := HX.out.2.2.2.2.2.2.2.2.2.2.2.2.2.2.2.2.2.1; omega)]; have h1 := HX.out.2.2.2.2.2.2.2.2.2.2.2.2.2.2.2.2.2.1; have h2 := HX.out.2.2.2.2.2.2.2.2.2.2.2.2.2.2.2.2.2.2.1; omega
  have m1 := (hdB_cells HF6.out.1.hd).1
  have mf1 := (hdB_free HF6.out.1.hd).1
  have HM1 : Hid _ := And.intro (HF6.out.1.set0 (.int .i64 2)) ((Chg.refl (SG (w.heap.size + 1 + 1) w2.heap.size) (w6.setCell ⟨w2.heap.size, 3, none⟩ (.slice sa L2 sp))).setP 0 (.int .i64 2))
  have fm1 := HM1.out.1.ps.rd.c2
  have vm1 := (hdB_cells HM1.out.1.hd).2.1
  have m2 := (hdB_cells HM1.out.1.hd).1
  have mf2 := (hdB_free HM1.out.1.hd).1
  have HM2 : Hid _ := And.intro (HM1.out.1.set0 (.int .i64 1)) (HM1.out.2.setP 0 (.int .i64 1))
  have fm2 := HM2.out.1.ps.rd.c2
  have vm2 := (hdB_cells HM2.out.1.hd).2.1
  have hvr7 := variableS_no (w.heap.size + 1 + 1) b off n cap (6 + L1 + 1 + L2) xs _ (show srB _ _ _ (((6 + L1 + 1 + L2) : Nat) : Int) _ from HM2.out.1.ps.rd) (HX.out.2.2.2.1.below HM2.out.1.ps.bel) HX.out.2.2.2.2.1 HX.out.2.2.2.2.2.1 (by have a0 := HX.out.2.2.2.2.2.2.2.2.2.2.2.2.2.2.2.1; omega) HX.out.2.2.2.2.2.2.2.2.2.2.2.2.2.2.2.2.2.2.2
  go_wp2_with fail
  go_at_call 66
  refine hvr7.mono ?_
  rintro e w7 ⟨rfl, r7, c7⟩
  clear hvr7
  have HR7 : Hid _ := And.intro (HM2.out.1.next r7 c7) (HM2.out.2.trans c7.toG)
  clear r7 c7
  have fr7 := HR7.out.1.ps.rd.c2
  obtain ⟨zc0, zc1, zc2, zc3, zc4, zc5, zc6, zc7⟩ := hdB_cells HR7.out.1.ps.r0
  obtain ⟨zf0, zf1, zf2, zf3, zf4, zf5, zf6, zf7⟩ := hdB_free HR7.out.1.ps.r0
  obtain ⟨zn0, zn1, zn2, zn3, zn4, zn5, zn6, zn7⟩ := hdB_cells HR7.out.1.ps.r1
  have hfl := faultS_t (w.heap.size + 1 + 1) _ _ w7.drew HR7.out.1.ps.rd.drewX
  go_wp2_with fail
  go_region_with (go_at_call 63; refine hfl.mono ?_; rintro e wz ⟨rfl, hwz⟩; rw [hwz]; clear hwz wz)
  all_goals (go_wp2_with fail)
  all_goals (refine bodyPost_ret (v := .tuple #[.agg #[.int .i64 0, .int .i64 0, .slice none 0 0, .slice none 0 0, .slice none 0 0, .int .i64 0, .int .i64 0, .int .i64 0], .int .i64 0, .int .i64 2]) ?_ rfl ?_)
  all_goals first
    | exact results_row_tmp2 (t := 24) rfl _ _ w.heap.size _ (fr := (0, 0)) _ _ _ rfl rfl rfl HR7.out.1.ps.zendD.2 Tryz.underlying24 rfl infoHd
    | exact ⟨HR7.out.1.ps.zendD.1, Or.inl ⟨2, HX.out.1.trans HX.out.2.1, rfl⟩⟩
set_option maxRecDepth 20000 in
set_option maxHeartbeats 4000000 in
theorem peekS_l16 (b off n cap m : Nat) (xs : List Int) (w : World) (hl : Lies w b off n cap xs) (hB : Bytes xs) (hn : n ≤ 65536) (h1 : 1 ≤ n) (hm : m ≤ 8) (hF : ¬ vals (sub xs 0 1) < 128) (h6 : ¬ n < 6) (L1 : Nat) (hL1 : vals (sub xs 5 1) = (L1 : Int)) (h81 : ¬ 8 < L1) (hs1 : ¬ n < 6 + L1) (h7 : ¬ n < 7 + L1) (L2 : Nat) (hL2 : vals (sub xs (6 + L1) 1) = (L2 : Int)) (h82 : ¬ 8 < L2) (hs2 : ¬ n < 7 + L1 + L2) (hv0 : ¬ vals (sub xs 1 4) = 0) (hk1 : 192 ≤ vals (sub xs 0 1)) (hk2 : vals (sub xs 0 1) < 208) (hv : varOK xs (6 + L1 + 1 + L2)) (U M : Nat) (hU : varV xs (6 + L1 + 1 + L2) = (U : Int)) (hM : varN xs (6 + L1 + 1 + L2) = M) (h64 : 64 < U) :
    Calls Tryz.prog 38 #[.slice (some ⟨b, off, none⟩) n cap, .int .i64 m] w fun e w' => PkPost xs m w e w' := by
  have hlen := hl.len
  have P0 := ps_new w (.slice (some ⟨b, off, none⟩) n cap)
  have hbg : b ≠ w.heap.size + 1 + 1 := by have := hl.lt; omega
  have hf := fixedS_ok (w.heap.size + 1 + 1) b off n cap 0 1 xs _ P0.rd (hl.below P0.bel) hB hbg hn (by omega) (by decide) (by decide)
  have eP := pk_long xs m (by omega) (by omega) hm hF
  have e : pkLong xs (vals (sub xs 0 1)) = .error 3 := by rw [pkLong_4 (by omega) (cid_ok xs 5 L1 (by omega) hL1 h81 (by omega)) (show pkCid xs (5 + 1 + L1) = .ok _ by rw [show 5 + 1 + L1 = 6 + L1 from rfl]; exact cid_ok xs (6 + L1) L2 (by omega) hL2 h82 (by omega))]; unfold pkTail; have hq : lform (vals (sub xs 0 1)) = 1 := (by unfold lform; rw [if_neg (by omega), if_pos hk2]); rw [if_neg hv0, hq, if_neg (by decide), if_pos rfl]; unfold pkIni; rw [if_pos hv, hU, if_pos (by omega)]
  have d1 : decide (vals (sub xs 0 1) < 64) = false := decide_eq_false (by omega)
  have d1b : decide (vals (sub xs 0 1) < 128) = false := decide_eq_false hF
  have HX : Hid _ := And.intro eP (And.intro e (And.intro P0 (And.intro hl (And.intro hB (And.intro hn (And.intro hbg (And.intro hlen (And.intro h6 (And.intro hL1 (And.intro h81 (And.intro hs1 (And.intro h7 (And.intro hL2 (And.intro h82 (And.intro hs2 (And.intro hv0 (And.intro hk1 (And.intro hk2 (And.intro hv (And.intro hU (And.intro hM h64)))))))))))))))))))))
  clear eP e P0 hl hB hbg hlen hF hn h1 h6 hL1 h81 hs1 h7 hL2 h82 hs2 hv0 hk1 hk2 hv hU hM h64
  obtain ⟨f, hfe⟩ : ∃ f, f = vals (sub xs 0 1) := ⟨_, rfl⟩
  rw [← hfe] at hf d1 d1b
  have HFE : Hid _ := And.intro hfe True.intro
  clear hfe
  go_enter Tryz.func38, Tryz.ntmps38
  go_wp2_with fail
  go_at_call 61
  refine hf.mono ?_
  rintro e w1 ⟨rfl, r1, c1⟩
  clear hf
  have HA : Hid _ := And.intro (HX.out.2.2.1.next r1 c1) True.intro
  have f1 := HA.out.1.rd.c2
  clear r1 c1
  have hv := fixedS_ok (w.heap.size + 1 + 1) b off n cap (0 + 1) 4 xs w1 HA.out.1.rd (HX.out.2.2.2.1.below HA.out.1.bel) HX.out.2.2.2.2.1 HX.out.2.2.2.2.2.2.1 HX.out.2.2.2.2.2.1 (by have a0 := HX.out.2.2.2.2.2.2.2.2.1; omega) (by decide) (by decide)
  obtain ⟨V, hVe⟩ : ∃ V, V = vals (sub xs (0 + 1) 4) := ⟨_, rfl⟩
  rw [← hVe] at hv
  have HVE : Hid _ := And.intro hVe True.intro
  clear hVe
  go_wp2_with fail
  go_at_call 61
  refine hv.mono ?_
  rintro e w2 ⟨rfl, r2, c2⟩
  clear hv f1
  have HC : Hid _ := And.intro (ph_new (HA.out.1.next r2 c2) V) True.intro
  clear r2 c2
  have hc := fixedS_ok (w.heap.size + 1 + 1) b off n cap 5 1 xs _ (show srB _ _ _ ((5 : Nat) : Int) _ from HC.out.1.ps.rd) (HX.out.2.2.2.1.below HC.out.1.ps.bel) HX.out.2.2.2.2.1 HX.out.2.2.2.2.2.2.1 HX.out.2.2.2.2.2.1 (by have a0 := HX.out.2.2.2.2.2.2.2.2.1; omega) (by decide) (by decide)
  rw [HX.out.2.2.2.2.2.2.2.2.2.1] at hc
  go_wp2_with fail
  go_at_call 61
  refine hc.mono ?_
  rintro e w3 ⟨rfl, r3, c3⟩
  clear hc
  have HE3 : Hid _ := And.intro (HC.out.1.next r3 c3) (Nat.le_trans HC.out.1.ps.bel.size c3.size)
  have f3 := HE3.out.1.ps.rd.c2
  clear r3 c3
  have ht := takeS_ok (w.heap.size + 1 + 1) b off n cap (5 + 1) L1 xs w3 HE3.out.1.ps.rd (HX.out.2.2.2.1.below HE3.out.1.ps.bel) HX.out.2.2.2.2.2.2.1 HX.out.2.2.2.2.2.1 (by have a0 := HX.out.2.2.2.2.2.2.2.2.2.2.2.1; omega)
  have b1 : decide ((8 : Int) < (L1 : Int)) = false := decide_eq_false (by have a0 := HX.out.2.2.2.2.2.2.2.2.2.2.1; omega)
  go_wp2_with fail
  go_at_call 62
  refine ht.mono ?_
  rintro e w4 ⟨vd, rfl, o4, r4, c4⟩
  clear ht f3
  obtain ⟨da, dp, ed⟩ := (row_of_owns o4).form
  rw [sub_len xs (5 + 1) L1 (by have a0 := HX.out.2.2.2.2.2.2.2.1; have a1 := HX.out.2.2.2.2.2.2.2.2.2.2.2.1; omega)] at ed
  subst ed
  have HT4 := HE3.out.1.next r4 c4
  have s2 : w4.cell? ⟨w2.heap.size, 2, none⟩ = some (.slice none 0 0) := (hdB_cells HT4.hd).2.2.1
  have s2f : w4.frozen? ⟨w2.heap.size, 2, none⟩ = false := (hdB_free HT4.hd).2.2.1
  have HF4 : Hid _ := And.intro (HT4.set2 (.slice da L1 dp)) (And.intro o4 c4.size)
  clear HT4 r4 c4 o4
  have hc := fixedS_ok (w.heap.size + 1 + 1) b off n cap (6 + L1) 1 xs _ (show srB _ _ _ ((6 + L1 : Nat) : Int) _ from HF4.out.1.ps.rd) (HX.out.2.2.2.1.below HF4.out.1.ps.bel) HX.out.2.2.2.2.1 HX.out.2.2.2.2.2.2.1 HX.out.2.2.2.2.2.1 (by have a0 := HX.out.2.2.2.2.2.2.2.2.2.2.2.2.1; omega) (by decide) (by decide)
  rw [HX.out.2.2.2.2.2.2.2.2.2.2.2.2.2.1] at hc
  go_wp2_with fail
  go_at_call 61
  refine hc.mono ?_
  rintro e w5 ⟨rfl, r5, c5⟩
  clear hc s2 s2f b1
  have HE5 : Hid _ := And.intro (HF4.out.1.next r5 c5) c5
  have f5 := HE5.out.1.ps.rd.c2
  clear r5 c5
  have ht := takeS_ok (w.heap.size + 1 + 1) b off n cap (6 + L1 + 1) L2 xs w5 HE5.out.1.ps.rd (HX.out.2.2.2.1.below HE5.out.1.ps.bel) HX.out.2.2.2.2.2.2.1 HX.out.2.2.2.2.2.1 (by have a0 := HX.out.2.2.2.2.2.2.2.2.2.2.2.2.2.2.2.1; omega)
  have b2 : decide ((8 : Int) < (L2 : Int)) = false := decide_eq_false (by have a0 := HX.out.2.2.2.2.2.2.2.2.2.2.2.2.2.2.1; omega)
  go_wp2_with fail
  go_at_call 62
  refine ht.mono ?_
  rintro e w6 ⟨vs, rfl, o6, r6, c6⟩
  clear ht f5
  obtain ⟨sa, sp, es⟩ := (row_of_owns o6).form
  rw [sub_len xs (6 + L1 + 1) L2 (by have a0 := HX.out.2.2.2.2.2.2.2.1; have a1 := HX.out.2.2.2.2.2.2.2.2.2.2.2.2.2.2.2.1; omega)] at es
  subst es
  have HT6 := HE5.out.1.next r6 c6
  have s3 : w6.cell? ⟨w2.heap.size, 3, none⟩ = some (.slice none 0 0) := (hdB_cells HT6.hd).2.2.2.1
  have s3f : w6.frozen? ⟨w2.heap.size, 3, none⟩ = false := (hdB_free HT6.hd).2.2.2.1
  have hbl : w2.heap.size < w3.heap.size := (Array.getElem?_eq_some_iff.1 HE3.out.1.hd).1
  have hgl := HE3.out.1.ps.rd.lt
  have hs45 : w4.heap.size ≤ w5.heap.size := by have h := HE5.out.2.size; rw [sizeS] at h; exact h
  have hs34 : w3.heap.size ≤ w4.heap.size := HF4.out.2.2
  have cZ : Chg (SG (w.heap.size + 1 + 1) w2.heap.size) w4 (w6.setCell ⟨w2.heap.size, 3, none⟩ (.slice sa L2 sp)) := ((((Chg.refl (SG (w.heap.size + 1 + 1) w2.heap.size) w4).setP 2 (.slice da L1 dp)).trans HE5.out.2.toG).trans c6.toG).setP 3 (.slice sa L2 sp)
  have od := cZ.ownsG HF4.out.2.1 hgl hbl
  have os : (w6.setCell ⟨w2.heap.size, 3, none⟩ (.slice sa L2 sp)).ownsRow w5.heap.size 5 1 (.slice sa L2 sp) L2 ((sub xs (6 + L1 + 1) L2).map (Value.int .u8)) := owns_set o6 (by omega)
  have HO : Hid _ := And.intro od (And.intro os (And.intro (apart_of HF4.out.2.1 o6 hs45) (And.intro hgl (And.intro hbl (And.intro (Nat.le_trans hs34 hs45) (by have := HE3.out.2; omega : w.heap.size < w3.heap.size))))))
  have HF6 : Hid _ := And.intro (HT6.set3 (.slice sa L2 sp)) True.intro
  have f6 := HF6.out.1.ps.rd.c2
  have v6 := (hdB_cells HF6.out.1.hd).2.1
  clear HT6 r6 c6 o6 cZ od os hgl hbl hs45 hs34
  have z0 : (V == 0) = false := by rw [HVE.out.1]; have h := HX.out.2.2.2.2.2.2.2.2.2.2.2.2.2.2.2.2.1; simpa using h
  have z1 : decide (f < 192) = false := by rw [HFE.out.1]; exact decide_eq_false (by have a0 := HX.out.2.2.2.2.2.2.2.2.2.2.2.2.2.2.2.2.2.1; omega)
  have zw : IntKind.i64.wrap (f - 192) = f - 192 := by rw [IntKind.wrap_i64, HFE.out.1]; have h1 := HX.out.2.2.2.2.2.2.2.2.2.2.2.2.2.2.2.2.2.1; have h2 := HX.out.2.2.2.2.2.2.2.2.2.2.2.2.2.2.2.2.2.2.1; omega
  have zq : (f - 192).tdiv 16 = 0 := by rw [HFE.out.1, Int.tdiv_eq_ediv_of_nonneg (by have h1 := HX.out.2.2.2.2.2.2.2.2.2.2.2.2.2.2.2.2.2.1; omega)]; have h1 := HX.out.2.2.2.2.2.2.2.2.2.2.2.2.2.2.2.2.2.1; have h2 := HX.out.2.2.2.2.2.2.2.2.2.2.2.2.2.2.2.2.2.2.1; omega
  have m1 := (hdB_cells HF6.out.1.hd).1
  have mf1 := (hdB_free HF6.out.1.hd).1
  have HM1 : Hid _ := And.intro (HF6.out.1.set0 (.int .i64 2)) ((Chg.refl (SG (w.heap.size + 1 + 1) w2.heap.size) (w6.setCell ⟨w2.heap.size, 3, none⟩ (.slice sa L2 sp))).setP 0 (.int .i64 2))
  have fm1 := HM1.out.1.ps.rd.c2
  have vm1 := (hdB_cells HM1.out.1.hd).2.1
  have m2 := (hdB_cells HM1.out.1.hd).1
  have mf2 := (hdB_free HM1.out.1.hd).1
  have HM2 : Hid _ := And.intro (HM1.out.1.set0 (.int .i64 1)) (HM1.out.2.setP 0 (.int .i64 1))
  have fm2 := HM2.out.1.ps.rd.c2
  have vm2 := (hdB_cells HM2.out.1.hd).2.1
  have hvr7 := variableS_ok (w.heap.size + 1 + 1) b off n cap (6 + L1 + 1 + L2) xs _ (show srB _ _ _ (((6 + L1 + 1 + L2) : Nat) : Int) _ from HM2.out.1.ps.rd) (HX.out.2.2.2.1.below HM2.out.1.ps.bel) HX.out.2.2.2.2.1 HX.out.2.2.2.2.2.1 HX.out.2.2.2.2.2.2.2.2.2.2.2.2.2.2.2.2.2.2.2.1
  rw [HX.out.2.2.2.2.2.2.2.2.2.2.2.2.2.2.2.2.2.2.2.2.1, HX.out.2.2.2.2.2.2.2.2.2.2.2.2.2.2.2.2.2.2.2.2.2.1] at hvr7
  go_wp2_with fail
  go_at_call 66
  refine hvr7.mono ?_
  rintro e w7 ⟨rfl, r7, c7⟩
  clear hvr7
  have HR7 : Hid _ := And.intro (HM2.out.1.next r7 c7) (HM2.out.2.trans c7.toG)
  have HC7 : Hid _ := And.intro c7 True.intro
  clear r7 c7
  have fr7 := HR7.out.1.ps.rd.c2
  have b3 : decide ((64 : Int) < (U : Int)) = true := decide_eq_true (by have a0 := HX.out.2.2.2.2.2.2.2.2.2.2.2.2.2.2.2.2.2.2.2.2.2.2; omega)
  obtain ⟨zc0, zc1, zc2, zc3, zc4, zc5, zc6, zc7⟩ := hdB_cells HR7.out.1.ps.r0
  obtain ⟨zf0, zf1, zf2, zf3, zf4, zf5, zf6, zf7⟩ := hdB_free HR7.out.1.ps.r0
  obtain ⟨zn0, zn1, zn2, zn3, zn4, zn5, zn6, zn7⟩ := hdB_cells HR7.out.1.ps.r1
  have hfl := faultS_f (w.heap.size + 1 + 1) _ _ w7.drew HR7.out.1.ps.rd.drewX
  go_wp2_with fail
  go_region_with (go_at_call 63; refine hfl.mono ?_; rintro e wz ⟨rfl, hwz⟩; rw [hwz]; clear hwz wz)
  all_goals (go_wp2_with fail)
  all_goals (refine bodyPost_ret (v := .tuple #[.agg #[.int .i64 0, .int .i64 0, .slice none 0 0, .slice none 0 0, .slice none 0 0, .int .i64 0, .int .i64 0, .int .i64 0], .int .i64 0, .int .i64 3]) ?_ rfl ?_)
  all_goals first
    | exact results_row_tmp2 (t := 24) rfl _ _ w.heap.size _ (fr := (0, 0)) _ _ _ rfl rfl rfl HR7.out.1.ps.zendD.2 Tryz.underlying24 rfl infoHd
    | exact ⟨HR7.out.1.ps.zendD.1, Or.inl ⟨3, HX.out.1.trans HX.out.2.1, rfl⟩⟩
set_option maxRecDepth 20000 in
set_option maxHeartbeats 4000000 in
theorem peekS_l17 (b off n cap m : Nat) (xs : List Int) (w : World) (hl : Lies w b off n cap xs) (hB : Bytes xs) (hn : n ≤ 65536) (h1 : 1 ≤ n) (hm : m ≤ 8) (hF : ¬ vals (sub xs 0 1) < 128) (h6 : ¬ n < 6) (L1 : Nat) (hL1 : vals (sub xs 5 1) = (L1 : Int)) (h81 : ¬ 8 < L1) (hs1 : ¬ n < 6 + L1) (h7 : ¬ n < 7 + L1) (L2 : Nat) (hL2 : vals (sub xs (6 + L1) 1) = (L2 : Int)) (h82 : ¬ 8 < L2) (hs2 : ¬ n < 7 + L1 + L2) (hv0 : ¬ vals (sub xs 1 4) = 0) (hk1 : 192 ≤ vals (sub xs 0 1)) (hk2 : vals (sub xs 0 1) < 208) (hv : varOK xs (6 + L1 + 1 + L2)) (U M : Nat) (hU : varV xs (6 + L1 + 1 + L2) = (U : Int)) (hM : varN xs (6 + L1 + 1 + L2) = M) (hMn : M ≤ n) (h64 : ¬ 64 < U) (hst : n < M + U) :
    Calls Tryz.prog 38 #[.slice (some ⟨b, off, none⟩) n cap, .int .i64 m] w fun e w' => PkPost xs m w e w' := by
  have hlen := hl.len
  have P0 := ps_new w (.slice (some ⟨b, off, none⟩) n cap)
  have hbg : b ≠ w.heap.size + 1 + 1 := by have := hl.lt; omega
  have hf := fixedS_ok (w.heap.size + 1 + 1) b off n cap 0 1 xs _ P0.rd (hl.below P0.bel) hB hbg hn (by omega) (by decide) (by decide)
  have eP := pk_long xs m (by omega) (by omega) hm hF
  have e : pkLong xs (vals (sub xs 0 1)) = .error 2 := by rw [pkLong_4 (by omega) (cid_ok xs 5 L1 (by omega) hL1 h81 (by omega)) (show pkCid xs (5 + 1 + L1) = .ok _ by rw [show 5 + 1 + L1 = 6 + L1 from rfl]; exact cid_ok xs (6 + L1) L2 (by omega) hL2 h82 (by omega))]; unfold pkTail; have hq : lform (vals (sub xs 0 1)) = 1 := (by unfold lform; rw [if_neg (by omega), if_pos hk2]); rw [if_neg hv0, hq, if_neg (by decide), if_pos rfl]; unfold pkIni; rw [if_pos hv, hU, hM, if_neg (by omega), Int.toNat_natCast, if_pos (by omega)]
  have d1 : decide (vals (sub xs 0 1) < 64) = false := decide_eq_false (by omega)
  have d1b : decide (vals (sub xs 0 1) < 128) = false := decide_eq_false hF
  have HX : Hid _ := And.intro eP (And.intro e (And.intro P0 (And.intro hl (And.intro hB (And.intro hn (And.intro hbg (And.intro hlen (And.intro h6 (And.intro hL1 (And.intro h81 (And.intro hs1 (And.intro h7 (And.intro hL2 (And.intro h82 (And.intro hs2 (And.intro hv0 (And.intro hk1 (And.intro hk2 (And.intro hv (And.intro hU (And.intro hM (And.intro hMn (And.intro h64 hst)))))))))))))))))))))))
  clear eP e P0 hl hB hbg hlen hF hn h1 h6 hL1 h81 hs1 h7 hL2 h82 hs2 hv0 hk1 hk2 hv hU hM hMn h64 hst
  obtain ⟨f, hfe⟩ : ∃ f, f = vals (sub xs 0 1) := ⟨_, rfl⟩
  rw [← hfe] at hf d1 d1b
  have HFE : Hid _ := And.intro hfe True.intro
  clear hfe
  go_enter Tryz.func38, Tryz.ntmps38
  go_wp2_with fail
  go_at_call 61
  refine hf.mono ?_
  rintro e w1 ⟨rfl, r1, c1⟩
  clear hf
  have HA : Hid _ := And.intro (HX.out.2.2.1.next r1 c1) True.intro
  have f1 := HA.out.1.rd.c2
  clear r1 c1
  have hv := fixedS_ok (w.heap.size + 1 + 1) b off n cap (0 + 1) 4 xs w1 HA.out.1.rd (HX.out.2.2.2.1.below HA.out.1.bel) HX.out.2.2.2.2.1 HX.out.2.2.2.2.2.2.1 HX.out.2.2.2.2.2.1 (by have a0 := HX.out.2.2.2.2.2.2.2.2.1; omega) (by decide) (by decide)
  obtain ⟨V, hVe⟩ : ∃ V, V = vals (sub xs (0 + 1) 4) := ⟨_, rfl⟩
  rw [← hVe] at hv
  have HVE : Hid _ := And.intro hVe True.intro
  clear hVe
  go_wp2_with fail
  go_at_call 61
  refine hv.mono ?_
  rintro e w2 ⟨rfl, r2, c2⟩
  clear hv f1
  have HC : Hid _ := And.intro (ph_new (HA.out.1.next r2 c2) V) True.intro
  clear r2 c2
  have hc := fixedS_ok (w.heap.size + 1 + 1) b off n cap 5 1 xs _ (show srB _ _ _ ((5 : Nat) : Int) _ from HC.out.1.ps.rd) (HX.out.2.2.2.1.below HC.out.1.ps.bel) HX.out.2.2.2.2.1 HX.out.2.2.2.2.2.2.1 HX.out.2.2.2.2.2.1 (by have a0 := HX.out.2.2.2.2.2.2.2.2.1; omega) (by decide) (by decide)
  rw [HX.out.2.2.2.2.2.2.2.2.2.1] at hc
  go_wp2_with fail
  go_at_call 61
  refine hc.mono ?_
  rintro e w3 ⟨rfl, r3, c3⟩
  clear hc
  have HE3 : Hid _ := And.intro (HC.out.1.next r3 c3) (Nat.le_trans HC.out.1.ps.bel.size c3.size)
  have f3 := HE3.out.1.ps.rd.c2
  clear r3 c3
  have ht := takeS_ok (w.heap.size + 1 + 1) b off n cap (5 + 1) L1 xs w3 HE3.out.1.ps.rd (HX.out.2.2.2.1.below HE3.out.1.ps.bel) HX.out.2.2.2.2.2.2.1 HX.out.2.2.2.2.2.1 (by have a0 := HX.out.2.2.2.2.2.2.2.2.2.2.2.1; omega)
  have b1 : decide ((8 : Int) < (L1 : Int)) = false := decide_eq_false (by have a0 := HX.out.2.2.2.2.2.2.2.2.2.2.1; omega)
  go_wp2_with fail
  go_at_call 62
  refine ht.mono ?_
  rintro e w4 ⟨vd, rfl, o4, r4, c4⟩
  clear ht f3
  obtain ⟨da, dp, ed⟩ := (row_of_owns o4).form
  rw [sub_len xs (5 + 1) L1 (by have a0 := HX.out.2.2.2.2.2.2.2.1; have a1 := HX.out.2.2.2.2.2.2.2.2.2.2.2.1; omega)] at ed
  subst ed
  have HT4 := HE3.out.1.next r4 c4
  have s2 : w4.cell? ⟨w2.heap.size, 2, none⟩ = some (.slice none 0 0) := (hdB_cells HT4.hd).2.2.1
  have s2f : w4.frozen? ⟨w2.heap.size, 2, none⟩ = false := (hdB_free HT4.hd).2.2.1
  have HF4 : Hid _ := And.intro (HT4.set2 (.slice da L1 dp)) (And.intro o4 c4.size)
  clear HT4 r4 c4 o4
  have hc := fixedS_ok (w.heap.size + 1 + 1) b off n cap (6 + L1) 1 xs _ (show srB _ _ _ ((6 + L1 : Nat) : Int) _ from HF4.out.1.ps.rd) (HX.out.2.2.2.1.below HF4.out.1.ps.bel) HX.out.2.2.2.2.1 HX.out.2.2.2.2.2.2.1 HX.out.2.2.2.2.2.1 (by have a0 := HX.out.2.2.2.2.2.2.2.2.2.2.2.2.1; omega) (by decide) (by decide)
  rw [HX.out.2.2.2.2.2.2.2.2.2.2.2.2.2.1] at hc
  go_wp2_with fail
  go_at_call 61
  refine hc.mono ?_
  rintro e w5 ⟨rfl, r5, c5⟩
  clear hc s2 s2f b1
  have HE5 : Hid _ := And.intro (HF4.out.1.next r5 c5) c5
  have f5 := HE5.out.1.ps.rd.c2
  clear r5 c5
  have ht := takeS_ok (w.heap.size + 1 + 1) b off n cap (6 + L1 + 1) L2 xs w5 HE5.out.1.ps.rd (HX.out.2.2.2.1.below HE5.out.1.ps.bel) HX.out.2.2.2.2.2.2.1 HX.out.2.2.2.2.2.1 (by have a0 := HX.out.2.2.2.2.2.2.2.2.2.2.2.2.2.2.2.1; omega)
  have b2 : decide ((8 : Int) < (L2 : Int)) = false := decide_eq_false (by have a0 := HX.out.2.2.2.2.2.2.2.2.2.2.2.2.2.2.1; omega)
  go_wp2_with fail
  go_at_call 62
  refine ht.mono ?_
  rintro e w6 ⟨vs, rfl, o6, r6, c6⟩
  clear ht f5
  obtain ⟨sa, sp, es⟩ := (row_of_owns o6).form
  rw [sub_len xs (6 + L1 + 1) L2 (by have a0 := HX.out.2.2.2.2.2.2.2.1; have a1 := HX.out.2.2.2.2.2.2.2.2.2.2.2.2.2.2.2.1; omega)] at es
  subst es
  have HT6 := HE5.out.1.next r6 c6
  have s3 : w6.cell? ⟨w2.heap.size, 3, none⟩ = some (.slice none 0 0) := (hdB_cells HT6.hd).2.2.2.1
  have s3f : w6.frozen? ⟨w2.heap.size, 3, none⟩ = false := (hdB_free HT6.hd).2.2.2.1
  have hbl : w2.heap.size < w3.heap.size := (Array.getElem?_eq_some_iff.1 HE3.out.1.hd).1
  have hgl := HE3.out.1.ps.rd.lt
  have hs45 : w4.heap.size ≤ w5.heap.size := by have h := HE5.out.2.size; rw [sizeS] at h; exact h
  have hs34 : w3.heap.size ≤ w4.heap.size := HF4.out.2.2
  have cZ : Chg (SG (w.heap.size + 1 + 1) w2.heap.size) w4 (w6.setCell ⟨w2.heap.size, 3, none⟩ (.slice sa L2 sp)) := ((((Chg.refl (SG (w.heap.size + 1 + 1) w2.heap.size) w4).setP 2 (.slice da L1 dp)).trans HE5.out.2.toG).trans c6.toG).setP 3 (.slice sa L2 sp)
  have od := cZ.ownsG HF4.out.2.1 hgl hbl
  have os : (w6.setCell ⟨w2.heap.size, 3, none⟩ (.slice sa L2 sp)).ownsRow w5.heap.size 5 1 (.slice sa L2 sp) L2 ((sub xs (6 + L1 + 1) L2).map (Value.int .u8)) := owns_set o6 (by omega)
  have HO : Hid _ := And.intro od (And.intro os (And.intro (apart_of HF4.out.2.1 o6 hs45) (And.intro hgl (And.intro hbl (And.intro (Nat.le_trans hs34 hs45) (by have := HE3.out.2; omega : w.heap.size < w3.heap.size))))))
  have HF6 : Hid _ := And.intro (HT6.set3 (.slice sa L2 sp)) True.intro
  have f6 := HF6.out.1.ps.rd.c2
  have v6 := (hdB_cells HF6.out.1.hd).2.1
  clear HT6 r6 c6 o6 cZ od os hgl hbl hs45 hs34
  have z0 : (V == 0) = false := by rw [HVE.out.1]; have h := HX.out.2.2.2.2.2.2.2.2.2.2.2.2.2.2.2.2.1; simpa using h
  have z1 : decide (f < 192) = false := by rw [HFE.out.1]; exact decide_eq_false (by have a0 := HX.out.2.2.2.2.2.2.2.2.2.2.2.2.2.2.2.2.2.1; omega)
  have zw : IntKind.i64.wrap (f - 192) = f - 192 := by rw [IntKind.wrap_i64, HFE.out.1]; have h1 := HX.out.2.2.2.2.2.2.2.2.2.2.2.2.2.2.2.2.2.1; have h2 := HX.out.2.2.2.2.2.2.2.2.2.2.2.2.2.2.2.2.2.2.1; omega
  have zq : (f - 192).tdiv 16 = 0 := by rw [HFE.out.1, Int.tdiv_eq_ediv_of_nonneg (by have h1 := HX.out.2.2.2.2.2.2.2.2.2.2.2.2.2.2.2.2.2.1; omega)]; have h1 := HX.out.2.2.2.2.2.2.2.2.2.2.2.2.2.2.2.2.2.1; have h2 := HX.out.2.2.2.2.2.2.2.2.2.2.2.2.2.2.2.2.2.2.1; omega
  have m1 := (hdB_cells HF6.out.1.hd).1
  have mf1 := (hdB_free HF6.out.1.hd).1
  have HM1 : Hid _ := And.intro (HF6.out.1.set0 (.int .i64 2)) ((Chg.refl (SG (w.heap.size + 1 + 1) w2.heap.size) (w6.setCell ⟨w2.heap.size, 3, none⟩ (.slice sa L2 sp))).setP 0 (.int .i64 2))
  have fm1 := HM1.out.1.ps.rd.c2
  have vm1 := (hdB_cells HM1.out.1.hd).2.1
  have m2 := (hdB_cells HM1.out.1.hd).1
  have mf2 := (hdB_free HM1.out.1.hd).1
  have HM2 : Hid _ := And.intro (HM1.out.1.set0 (.int .i64 1)) (HM1.out.2.setP 0 (.int .i64 1))
  have fm2 := HM2.out.1.ps.rd.c2
  have vm2 := (hdB_cells HM2.out.1.hd).2.1
  have hvr7 := variableS_ok (w.heap.size + 1 + 1) b off n cap (6 + L1 + 1 + L2) xs _ (show srB _ _ _ (((6 + L1 + 1 + L2) : Nat) : Int) _ from HM2.out.1.ps.rd) (HX.out.2.2.2.1.below HM2.out.1.ps.bel) HX.out.2.2.2.2.1 HX.out.2.2.2.2.2.1 HX.out.2.2.2.2.2.2.2.2.2.2.2.2.2.2.2.2.2.2.2.1
  rw [HX.out.2.2.2.2.2.2.2.2.2.2.2.2.2.2.2.2.2.2.2.2.1, HX.out.2.2.2.2.2.2.2.2.2.2.2.2.2.2.2.2.2.2.2.2.2.1] at hvr7
  go_wp2_with fail
  go_at_call 66
  refine hvr7.mono ?_
  rintro e w7 ⟨rfl, r7, c7⟩
  clear hvr7
  have HR7 : Hid _ := And.intro (HM2.out.1.next r7 c7) (HM2.out.2.trans c7.toG)
  have HC7 : Hid _ := And.intro c7 True.intro
  clear r7 c7
  have fr7 := HR7.out.1.ps.rd.c2
  have b3 : decide ((64 : Int) < (U : Int)) = false := decide_eq_false (by have a0 := HX.out.2.2.2.2.2.2.2.2.2.2.2.2.2.2.2.2.2.2.2.2.2.2.2.1; omega)
  have htk8 := takeS_no (w.heap.size + 1 + 1) (some ⟨b, off, none⟩) n cap ((M : Nat) : Int) U false _ HR7.out.1.ps.rd ⟨by omega, by have a0 := HX.out.2.2.2.2.2.2.2.2.2.2.2.2.2.2.2.2.2.2.2.2.2.2.1; omega⟩ (by have a0 := HX.out.2.2.2.2.2.1; omega) (Or.inr (by have a0 := HX.out.2.2.2.2.2.2.2.2.2.2.2.2.2.2.2.2.2.2.2.2.2.2.2.2; omega))
  go_wp2_with fail
  go_at_call 62
  refine htk8.mono ?_
  rintro e w8 ⟨q8, rfl, hq8, o8, r8, c8⟩
  clear htk8
  have HR8 : Hid _ := And.intro (HR7.out.1.next r8 c8) (HR7.out.2.trans c8.toG)
  clear r8 c8 o8 hq8
  have fr8 := HR8.out.1.ps.rd.c2
  have mt := (hdB_cells HR8.out.1.hd).2.2.2.2.1
  have mtf := (hdB_free HR8.out.1.hd).2.2.2.2.1
  have HT : Hid _ := And.intro (HR8.out.1.set4 (.slice (some ⟨q8, 0, none⟩) 0 0)) (HR8.out.2.setP 4 (.slice (some ⟨q8, 0, none⟩) 0 0))
  have ft := HT.out.1.ps.rd.c2
  have hvs9 := variableS_sh (w.heap.size + 1 + 1) _ _ (w8.setCell ⟨w2.heap.size, 4, none⟩ (.slice (some ⟨q8, 0, none⟩) 0 0)) HT.out.1.ps.rd
  go_wp2_with fail
  go_at_call 66
  refine hvs9.mono ?_
  rintro e w9 ⟨rfl, hw9⟩
  rw [hw9]
  clear hw9 w9 hvs9
  obtain ⟨zc0, zc1, zc2, zc3, zc4, zc5, zc6, zc7⟩ := hdB_cells HT.out.1.ps.r0
  obtain ⟨zf0, zf1, zf2, zf3, zf4, zf5, zf6, zf7⟩ := hdB_free HT.out.1.ps.r0
  obtain ⟨zn0, zn1, zn2, zn3, zn4, zn5, zn6, zn7⟩ := hdB_cells HT.out.1.ps.r1
  have hfl := faultS_t (w.heap.size + 1 + 1) _ _ (w8.setCell ⟨w2.heap.size, 4, none⟩ (.slice (some ⟨q8, 0, none⟩) 0 0)).drew HT.out.1.ps.rd.drewX
  go_wp2_with fail
  go_region_with (go_at_call 63; refine hfl.mono ?_; rintro e wz ⟨rfl, hwz⟩; rw [hwz]; clear hwz wz)
  all_goals (go_wp2_with fail)
  all_goals (refine bodyPost_ret (v := .tuple #[.agg #[.int .i64 0, .int .i64 0, .slice none 0 0, .slice none 0 0, .slice none 0 0, .int .i64 0, .int .i64 0, .int .i64 0], .int .i64 0, .int .i64 2]) ?_ rfl ?_)
  all_goals first
    | exact results_row_tmp2 (t := 24) rfl _ _ w.heap.size _ (fr := (0, 0)) _ _ _ rfl rfl rfl HT.out.1.ps.zendD.2 Tryz.underlying24 rfl infoHd
    | exact ⟨HT.out.1.ps.zendD.1, Or.inl ⟨2, HX.out.1.trans HX.out.2.1, rfl⟩⟩
set_option maxRecDepth 20000 in
set_option maxHeartbeats 4000000 in
theorem peekS_l18 (b off n cap m : Nat) (xs : List Int) (w : World) (hl : Lies w b off n cap xs) (hB : Bytes xs) (hn : n ≤ 65536) (h1 : 1 ≤ n) (hm : m ≤ 8) (hF : ¬ vals (sub xs 0 1) < 128) (h6 : ¬ n < 6) (L1 : Nat) (hL1 : vals (sub xs 5 1) = (L1 : Int)) (h81 : ¬ 8 < L1) (hs1 : ¬ n < 6 + L1) (h7 : ¬ n < 7 + L1) (L2 : Nat) (hL2 : vals (sub xs (6 + L1) 1) = (L2 : Int)) (h82 : ¬ 8 < L2) (hs2 : ¬ n < 7 + L1 + L2) (hv0 : ¬ vals (sub xs 1 4) = 0) (hk1 : 192 ≤ vals (sub xs 0 1)) (hk2 : vals (sub xs 0 1) < 208) (hv : varOK xs (6 + L1 + 1 + L2)) (U M : Nat) (hU : varV xs (6 + L1 + 1 + L2) = (U : Int)) (hM : varN xs (6 + L1 + 1 + L2) = M) (hMn : M ≤ n) (h64 : ¬ 64 < U) (hst : ¬ n < M + U) (hv2 : ¬ varOK xs (M + U)) :
    Calls Tryz.prog 38 #[.slice (some ⟨b, off, none⟩) n cap, .int .i64 m] w fun e w' => PkPost xs m w e w' := by
  have hlen := hl.len
  have P0 := ps_new w (.slice (some ⟨b, off, none⟩) n cap)
  have hbg : b ≠ w.heap.size + 1 + 1 := by have := hl.lt; omega
  have hf := fixedS_ok (w.heap.size + 1 + 1) b off n cap 0 1 xs _ P0.rd (hl.below P0.bel) hB hbg hn (by omega) (by decide) (by decide)
  have eP := pk_long xs m (by omega) (by omega) hm hF
  have e : pkLong xs (vals (sub xs 0 1)) = .error 2 := by rw [pkLong_4 (by omega) (cid_ok xs 5 L1 (by omega) hL1 h81 (by omega)) (show pkCid xs (5 + 1 + L1) = .ok _ by rw [show 5 + 1 + L1 = 6 + L1 from rfl]; exact cid_ok xs (6 + L1) L2 (by omega) hL2 h82 (by omega))]; unfold pkTail; have hq : lform (vals (sub xs 0 1)) = 1 := (by unfold lform; rw [if_neg (by omega), if_pos hk2]); rw [if_neg hv0, hq, if_neg (by decide), if_pos rfl]; unfold pkIni; rw [if_pos hv, hU, hM, if_neg (by omega), Int.toNat_natCast, if_neg (by omega), beh_e1 xs _ hv2]
  have d1 : decide (vals (sub xs 0 1) < 64) = false := decide_eq_false (by omega)
  have d1b : decide (vals (sub xs 0 1) < 128) = false := decide_eq_false hF
  have HX : Hid _ := And.intro eP (And.intro e (And.intro P0 (And.intro hl (And.intro hB (And.intro hn (And.intro hbg (And.intro hlen (And.intro h6 (And.intro hL1 (And.intro h81 (And.intro hs1 (And.intro h7 (And.intro hL2 (And.intro h82 (And.intro hs2 (And.intro hv0 (And.intro hk1 (And.intro hk2 (And.intro hv (And.intro hU (And.intro hM (And.intro hMn (And.intro h64 (And.intro hst hv2))))))))))))))))))))))))
  clear eP e P0 hl hB hbg hlen hF hn h1 h6 hL1 h81 hs1 h7 hL2 h82 hs2 hv0 hk1 hk2 hv hU hM hMn h64 hst hv2
  obtain ⟨f, hfe⟩ : ∃ f, f = vals (sub xs 0 1) := ⟨_, rfl⟩
  rw [← hfe] at hf d1 d1b
  have HFE : Hid _ := And.intro hfe True.intro
  clear hfe
  go_enter Tryz.func38, Tryz.ntmps38
  go_wp2_with fail
  go_at_call 61
  refine hf.mono ?_
  rintro e w1 ⟨rfl, r1, c1⟩
  clear hf
  have HA : Hid _ := And.intro (HX.out.2.2.1.next r1 c1) True.intro
  have f1 := HA.out.1.rd.c2
  clear r1 c1
  have hv := fixedS_ok (w.heap.size + 1 + 1) b off n cap (0 + 1) 4 xs w1 HA.out.1.rd (HX.out.2.2.2.1.below HA.out.1.bel) HX.out.2.2.2.2.1 HX.out.2.2.2.2.2.2.1 HX.out.2.2.2.2.2.1 (by have a0 := HX.out.2.2.2.2.2.2.2.2.1; omega) (by decide) (by decide)
  obtain ⟨V, hVe⟩ : ∃ V, V = vals (sub xs (0 + 1) 4) := ⟨_, rfl⟩
  rw [← hVe] at hv
  have HVE : Hid _ := And.intro hVe True.intro
  clear hVe
  go_wp2_with fail
  go_at_call 61
  refine hv.mono ?_
  rintro e w2 ⟨rfl, r2, c2⟩
  clear hv f1
  have HC : Hid _ := And.intro (ph_new (HA.out.1.next r2 c2) V) True.intro
  clear r2 c2
  have hc := fixedS_ok (w.heap.size + 1 + 1) b off n cap 5 1 xs _ (show srB _ _ _ ((5 : Nat) : Int) _ from HC.out.1.ps.rd) (HX.out.2.2.2.1.below HC.out.1.ps.bel) HX.out.2.2.2.2.1 HX.out.2.2.2.2.2.2.1 HX.out.2.2.2.2.2.1 (by have a0 := HX.out.2.2.2.2.2.2.2.2.1; omega) (by decide) (by decide)
  rw [HX.out.2.2.2.2.2.2.2.2.2.1] at hc
  go_wp2_with fail
  go_at_call 61
  refine hc.mono ?_
  rintro e w3 ⟨rfl, r3, c3⟩
  clear hc
  have HE3 : Hid _ := And.intro (HC.out.1.next r3 c3) (Nat.le_trans HC.out.1.ps.bel.size c3.size)
  have f3 := HE3.out.1.ps.rd.c2
  clear r3 c3
  have ht := takeS_ok (w.heap.size + 1 + 1) b off n cap (5 + 1) L1 xs w3 HE3.out.1.ps.rd (HX.out.2.2.2.1.below HE3.out.1.ps.bel) HX.out.2.2.2.2.2.2.1 HX.out.2.2.2.2.2.1 (by have a0 := HX.out.2.2.2.2.2.2.2.2.2.2.2.1; omega)
  have b1 : decide ((8 : Int) < (L1 : Int)) = false := decide_eq_false (by have a0 := HX.out.2.2.2.2.2.2.2.2.2.2.1; omega)
  go_wp2_with fail
  go_at_call 62
  refine ht.mono ?_
  rintro e w4 ⟨vd, rfl, o4, r4, c4⟩
  clear ht f3
  obtain ⟨da, dp, ed⟩ := (row_of_owns o4).form
  rw [sub_len xs (5 + 1) L1 (by have a0 := HX.out.2.2.2.2.2.2.2.1; have a1 := HX.out.2.2.2.2.2.2.2.2.2.2.2.1; omega)] at ed
  subst ed
  have HT4 := HE3.out.1.next r4 c4
  have s2 : w4.cell? ⟨w2.heap.size, 2, none⟩ = some (.slice none 0 0) := (hdB_cells HT4.hd).2.2.1
  have s2f : w4.frozen? ⟨w2.heap.size, 2, none⟩ = false := (hdB_free HT4.hd).2.2.1
  have HF4 : Hid _ := And.intro (HT4.set2 (.slice da L1 dp)) (And.intro o4 c4.size)
  clear HT4 r4 c4 o4
  have hc := fixedS_ok (w.heap.size + 1 + 1) b off n cap (6 + L1) 1 xs _ (show srB _ _ _ ((6 + L1 : Nat) : Int) _ from HF4.out.1.ps.rd) (HX.out.2.2.2.1.below HF4.out.1.ps.bel) HX.out.2.2.2.2.1 HX.out.2.2.2.2.2.2.1 HX.out.2.2.2.2.2.1 (by have a0 := HX.out.2.2.2.2.2.2.2.2.2.2.2.2.1; omega) (by decide) (by decide)
  rw [HX.out.2.2.2.2.2.2.2.2.2.2.2.2.2.1] at hc
  go_wp2_with fail
  go_at_call 61
  refine hc.mono ?_
  rintro e w5 ⟨rfl, r5, c5⟩
  clear hc s2 s2f b1
  have HE5 : Hid _ := And.intro (HF4.out.1.next r5 c5) c5
  have f5 := HE5.out.1.ps.rd.c2
  clear r5 c5
  have ht := takeS_ok (w.heap.size + 1 + 1) b off n cap (6 + L1 + 1) L2 xs w5 HE5.out.1.ps.rd (HX.out.2.2.2.1.below HE5.out.1.ps.bel) HX.out.2.2.2.2.2.2.1 HX.out.2.2.2.2.2.1 (by have a0 := HX.out.2.2.2.2.2.2.2.2.2.2.2.2.2.2.2.1; omega)
  have b2 : decide ((8 : Int) < (L2 : Int)) = false := decide_eq_false (by have a0 := HX.out.2.2.2.2.2.2.2.2.2.2.2.2.2.2.1; omega)
  go_wp2_with fail
  go_at_call 62
  refine ht.mono ?_
  rintro e w6 ⟨vs, rfl, o6, r6, c6⟩
  clear ht f5
  obtain ⟨sa, sp, es⟩ := (row_of_owns o6).form
  rw [sub_len xs (6 + L1 + 1) L2 (by have a0 := HX.out.2.2.2.2.2.2.2.1; have a1 := HX.out.2.2.2.2.2.2.2.2.2.2.2.2.2.2.2.1; omega)] at es
  subst es
  have HT6 := HE5.out.1.next r6 c6
  have s3 : w6.cell? ⟨w2.heap.size, 3, none⟩ = some (.slice none 0 0) := (hdB_cells HT6.hd).2.2.2.1
  have s3f : w6.frozen? ⟨w2.heap.size, 3, none⟩ = false := (hdB_free HT6.hd).2.2.2.1
  have hbl : w2.heap.size < w3.heap.size := (Array.getElem?_eq_some_iff.1 HE3.out.1.hd).1
  have hgl := HE3.out.1.ps.rd.lt
  have hs45 : w4.heap.size ≤ w5.heap.size := by have h := HE5.out.2.size; rw [sizeS] at h; exact h
  have hs34 : w3.heap.size ≤ w4.heap.size := HF4.out.2.2
  have cZ : Chg (SG (w.heap.size + 1 + 1) w2.heap.size) w4 (w6.setCell ⟨w2.heap.size, 3, none⟩ (.slice sa L2 sp)) := ((((Chg.refl (SG (w.heap.size + 1 + 1) w2.heap.size) w4).setP 2 (.slice da L1 dp)).trans HE5.out.2.toG).trans c6.toG).setP 3 (.slice sa L2 sp)
  have od := cZ.ownsG HF4.out.2.1 hgl hbl
  have os : (w6.setCell ⟨w2.heap.size, 3, none⟩ (.slice sa L2 sp)).ownsRow w5.heap.size 5 1 (.slice sa L2 sp) L2 ((sub xs (6 + L1 + 1) L2).map (Value.int .u8)) := owns_set o6 (by omega)
  have HO : Hid _ := And.intro od (And.intro os (And.intro (apart_of HF4.out.2.1 o6 hs45) (And.intro hgl (And.intro hbl (And.intro (Nat.le_trans hs34 hs45) (by have := HE3.out.2; omega : w.heap.size < w3.heap.size))))))
  have HF6 : Hid _ := And.intro (HT6.set3 (.slice sa L2 sp)) True.intro
  have f6 := HF6.out.1.ps.rd.c2
  have v6 := (hdB_cells HF6.out.1.hd).2.1
  clear HT6 r6 c6 o6 cZ od os hgl hbl hs45 hs34
  have z0 : (V == 0) = false := by rw [HVE.out.1]; have h := HX.out.2.2.2.2.2.2.2.2.2.2.2.2.2.2.2.2.1; simpa using h
  have z1 : decide (f < 192) = false := by rw [HFE.out.1]; exact decide_eq_false (by have a0 := HX.out.2.2.2.2.2.2.2.2.2.2.2.2.2.2.2.2.2.1; omega)
  have zw : IntKind.i64.wrap (f - 192) = f - 192 := by rw [IntKind.wrap_i64, HFE.out.1]; have h1 := HX.out.2.2.2.2.2.2.2.2.2.2.2.2.2.2.2.2.2.1; have h2 := HX.out.2.2.2.2.2.2.2.2.2.2.2.2.2.2.2.2.2.2.1; omega
  have zq : (f - 192).tdiv 16 = 0 := by rw [HFE.out.1, Int.tdiv_eq_ediv_of_nonneg (by have h1 := HX.out.2.2.2.2.2.2.2.2.2.2.2.2.2.2.2.2.2.1; omega)]; have h1 := HX.out.2.2.2.2.2.2.2.2.2.2.2.2.2.2.2.2.2.1; have h2 := HX.out.2.2.2.2.2.2.2.2.2.2.2.2.2.2.2.2.2.2.1; omega
  have m1 := (hdB_cells HF6.out.1.hd).1
  have mf1 := (hdB_free HF6.out.1.hd).1
  have HM1 : Hid _ := And.intro (HF6.out.1.set0 (.int .i64 2)) ((Chg.refl (SG (w.heap.size + 1 + 1) w2.heap.size) (w6.setCell ⟨w2.heap.size, 3, none⟩ (.slice sa L2 sp))).setP 0 (.int .i64 2))
  have fm1 := HM1.out.1.ps.rd.c2
  have vm1 := (hdB_cells HM1.out.1.hd).2.1
  have m2 := (hdB_cells HM1.out.1.hd).1
  have mf2 := (hdB_free HM1.out.1.hd).1
  have HM2 : Hid _ := And.intro (HM1.out.1.set0 (.int .i64 1)) (HM1.out.2.setP 0 (.int .i64 1))
  have fm2 := HM2.out.1.ps.rd.c2
  have vm2 := (hdB_cells HM2.out.1.hd).2.1
  have hvr7 := variableS_ok (w.heap.size + 1 + 1) b off n cap (6 + L1 + 1 + L2) xs _ (show srB _ _ _ (((6 + L1 + 1 + L2) : Nat) : Int) _ from HM2.out.1.ps.rd) (HX.out.2.2.2.1.below HM2.out.1.ps.bel) HX.out.2.2.2.2.1 HX.out.2.2.2.2.2.1 HX.out.2.2.2.2.2.2.2.2.2.2.2.2.2.2.2.2.2.2.2.1
  rw [HX.out.2.2.2.2.2.2.2.2.2.2.2.2.2.2.2.2.2.2.2.2.1, HX.out.2.2.2.2.2.2.2.2.2.2.2.2.2.2.2.2.2.2.2.2.2.1] at hvr7
  go_wp2_with fail
  go_at_call 66
  refine hvr7.mono ?_
  rintro e w7 ⟨rfl, r7, c7⟩
  clear hvr7
  have HR7 : Hid _ := And.intro (HM2.out.1.next r7 c7) (HM2.out.2.trans c7.toG)
  have HC7 : Hid _ := And.intro c7 True.intro
  clear r7 c7
  have fr7 := HR7.out.1.ps.rd.c2
  have b3 : decide ((64 : Int) < (U : Int)) = false := decide_eq_false (by have a0 := HX.out.2.2.2.2.2.2.2.2.2.2.2.2.2.2.2.2.2.2.2.2.2.2.2.1; omega)
  have htk8 := takeS_ok (w.heap.size + 1 + 1) b off n cap M U xs _ (show srB _ _ _ ((M : Nat) : Int) _ from HR7.out.1.ps.rd) (HX.out.2.2.2.1.below HR7.out.1.ps.bel) HX.out.2.2.2.2.2.2.1 HX.out.2.2.2.2.2.1 (by have a0 := HX.out.2.2.2.2.2.2.2.2.2.2.2.2.2.2.2.2.2.2.2.2.2.2.2.2.1; omega)
  go_wp2_with fail
  go_at_call 62
  refine htk8.mono ?_
  rintro e w8 ⟨vt8, rfl, o8, r8, c8⟩
  clear htk8
  obtain ⟨ta, tp, et⟩ := (row_of_owns o8).form
  rw [sub_len xs M U (by have a0 := HX.out.2.2.2.2.2.2.2.1; have a1 := HX.out.2.2.2.2.2.2.2.2.2.2.2.2.2.2.2.2.2.2.2.2.2.2.2.2.1; omega)] at et
  subst et
  have HR8 : Hid _ := And.intro (HR7.out.1.next r8 c8) (And.intro (HR7.out.2.trans c8.toG) (And.intro o8 c8.size))
  have HC8 : Hid _ := And.intro c8 True.intro
  clear r8 c8 o8
  have fr8 := HR8.out.1.ps.rd.c2
  have mt := (hdB_cells HR8.out.1.hd).2.2.2.2.1
  have mtf := (hdB_free HR8.out.1.hd).2.2.2.2.1
  have HT : Hid _ := And.intro (HR8.out.1.set4 (.slice ta U tp)) (HR8.out.2.1.setP 4 (.slice ta U tp))
  have ft := HT.out.1.ps.rd.c2
  have hvr9 := variableS_no (w.heap.size + 1 + 1) b off n cap (M + U) xs _ (show srB _ _ _ (((M + U) : Nat) : Int) _ from HT.out.1.ps.rd) (HX.out.2.2.2.1.below HT.out.1.ps.bel) HX.out.2.2.2.2.1 HX.out.2.2.2.2.2.1 (by have a0 := HX.out.2.2.2.2.2.2.2.2.2.2.2.2.2.2.2.2.2.2.2.2.2.2.2.2.1; omega) HX.out.2.2.2.2.2.2.2.2.2.2.2.2.2.2.2.2.2.2.2.2.2.2.2.2.2
  go_wp2_with fail
  go_at_call 66
  refine hvr9.mono ?_
  rintro e w9 ⟨rfl, r9, c9⟩
  clear hvr9
  have HR9 : Hid _ := And.intro (HT.out.1.next r9 c9) (HT.out.2.trans c9.toG)
  clear r9 c9
  have fr9 := HR9.out.1.ps.rd.c2
  obtain ⟨zc0, zc1, zc2, zc3, zc4, zc5, zc6, zc7⟩ := hdB_cells HR9.out.1.ps.r0
  obtain ⟨zf0, zf1, zf2, zf3, zf4, zf5, zf6, zf7⟩ := hdB_free HR9.out.1.ps.r0
  obtain ⟨zn0, zn1, zn2, zn3, zn4, zn5, zn6, zn7⟩ := hdB_cells HR9.out.1.ps.r1
  have hfl := faultS_t (w.heap.size + 1 + 1) _ _ w9.drew HR9.out.1.ps.rd.drewX
  go_wp2_with fail
  go_region_with (go_at_call 63; refine hfl.mono ?_; rintro e wz ⟨rfl, hwz⟩; rw [hwz]; clear hwz wz)
  all_goals (go_wp2_with fail)
  all_goals (refine bodyPost_ret (v := .tuple #[.agg #[.int .i64 0, .int .i64 0, .slice none 0 0, .slice none 0 0, .slice none 0 0, .int .i64 0, .int .i64 0, .int .i64 0], .int .i64 0, .int .i64 2]) ?_ rfl ?_)
  all_goals first
    | exact results_row_tmp2 (t := 24) rfl _ _ w.heap.size _ (fr := (0, 0)) _ _ _ rfl rfl rfl HR9.out.1.ps.zendD.2 Tryz.underlying24 rfl infoHd
    | exact ⟨HR9.out.1.ps.zendD.1, Or.inl ⟨2, HX.out.1.trans HX.out.2.1, rfl⟩⟩
set_option maxRecDepth 20000 in
set_option maxHeartbeats 4000000 in
theorem peekS_l19 (b off n cap m : Nat) (xs : List Int) (w : World) (hl : Lies w b off n cap xs) (hB : Bytes xs) (hn : n ≤ 65536) (h1 : 1 ≤ n) (hm : m ≤ 8) (hF : ¬ vals (sub xs 0 1) < 128) (h6 : ¬ n < 6) (L1 : Nat) (hL1 : vals (sub xs 5 1) = (L1 : Int)) (h81 : ¬ 8 < L1) (hs1 : ¬ n < 6 + L1) (h7 : ¬ n < 7 + L1) (L2 : Nat) (hL2 : vals (sub xs (6 + L1) 1) = (L2 : Int)) (h82 : ¬ 8 < L2) (hs2 : ¬ n < 7 + L1 + L2) (hv0 : ¬ vals (sub xs 1 4) = 0) (hk1 : 192 ≤ vals (sub xs 0 1)) (hk2 : vals (sub xs 0 1) < 208) (hv : varOK xs (6 + L1 + 1 + L2)) (U M : Nat) (hU : varV xs (6 + L1 + 1 + L2) = (U : Int)) (hM : varN xs (6 + L1 + 1 + L2) = M) (hMn : M ≤ n) (h64 : ¬ 64 < U) (hst : ¬ n < M + U) (hv2 : varOK xs (M + U)) (U2 M2 : Nat) (hU2 : varV xs (M + U) = (U2 : Int)) (hM2 : varN xs (M + U) = M2) (hb : U2 < 12) :
    Calls Tryz.prog 38 #[.slice (some ⟨b, off, none⟩) n cap, .int .i64 m] w fun e w' => PkPost xs m w e w' := by
  have hlen := hl.len
  have P0 := ps_new w (.slice (some ⟨b, off, none⟩) n cap)
  have hbg : b ≠ w.heap.size + 1 + 1 := by have := hl.lt; omega
  have hf := fixedS_ok (w.heap.size + 1 + 1) b off n cap 0 1 xs _ P0.rd (hl.below P0.bel) hB hbg hn (by omega) (by decide) (by decide)
  have eP := pk_long xs m (by omega) (by omega) hm hF
  have e : pkLong xs (vals (sub xs 0 1)) = .error 3 := by rw [pkLong_4 (by omega) (cid_ok xs 5 L1 (by omega) hL1 h81 (by omega)) (show pkCid xs (5 + 1 + L1) = .ok _ by rw [show 5 + 1 + L1 = 6 + L1 from rfl]; exact cid_ok xs (6 + L1) L2 (by omega) hL2 h82 (by omega))]; unfold pkTail; have hq : lform (vals (sub xs 0 1)) = 1 := (by unfold lform; rw [if_neg (by omega), if_pos hk2]); rw [if_neg hv0, hq, if_neg (by decide), if_pos rfl]; unfold pkIni; rw [if_pos hv, hU, hM, if_neg (by omega), Int.toNat_natCast, if_neg (by omega), beh_e2 xs _ U2 hv2 hU2 (Or.inl hb)]
  have d1 : decide (vals (sub xs 0 1) < 64) = false := decide_eq_false (by omega)
  have d1b : decide (vals (sub xs 0 1) < 128) = false := decide_eq_false hF
  have HX : Hid _ := And.intro eP (And.intro e (And.intro P0 (And.intro hl (And.intro hB (And.intro hn (And.intro hbg (And.intro hlen (And.intro h6 (And.intro hL1 (And.intro h81 (And.intro hs1 (And.intro h7 (And.intro hL2 (And.intro h82 (And.intro hs2 (And.intro hv0 (And.intro hk1 (And.intro hk2 (And.intro hv (And.intro hU (And.intro hM (And.intro hMn (And.intro h64 (And.intro hst (And.intro hv2 (And.intro hU2 (And.intro hM2 hb)))))))))))))))))))))))))))
  clear eP e P0 hl hB hbg hlen hF hn h1 h6 hL1 h81 hs1 h7 hL2 h82 hs2 hv0 hk1 hk2 hv hU hM hMn h64 hst hv2 hU2 hM2 hb
  obtain ⟨f, hfe⟩ : ∃ f, f = vals (sub xs 0 1) := ⟨_, rfl⟩
  rw [← hfe] at hf d1 d1b
  have HFE : Hid _ := And.intro hfe True.intro
  clear hfe
  go_enter Tryz.func38, Tryz.ntmps38
  go_wp2_with fail
  go_at_call 61
  refine hf.mono ?_
  rintro e w1 ⟨rfl, r1, c1⟩
  clear hf
  have HA : Hid _ := And.intro (HX.out.2.2.1.next r1 c1) True.intro
  have f1 := HA.out.1.rd.c2
  clear r1 c1
  have hv := fixedS_ok (w.heap.size + 1 + 1) b off n cap (0 + 1) 4 xs w1 HA.out.1.rd (HX.out.2.2.2.1.below HA.out.1.bel) HX.out.2.2.2.2.1 HX.out.2.2.2.2.2.2.1 HX.out.2.2.2.2.2.1 (by have a0 := HX.out.2.2.2.2.2.2.2.2.1; omega) (by decide) (by decide)
  obtain ⟨V, hVe⟩ : ∃ V, V = vals (sub xs (0 + 1) 4) := ⟨_, rfl⟩
  rw [← hVe] at hv
  have HVE : Hid _ := And.intro hVe True.intro
  clear hVe
  go_wp2_with fail
  go_at_call 61
  refine hv.mono ?_
  rintro e w2 ⟨rfl, r2, c2⟩
  clear hv f1
  have HC : Hid _ := And.intro (ph_new (HA.out.1.next r2 c2) V) True.intro
  clear r2 c2
  have hc := fixedS_ok (w.heap.size + 1 + 1) b off n cap 5 1 xs _ (show srB _ _ _ ((5 : Nat) : Int) _ from HC.out.1.ps.rd) (HX.out.2.2.2.1.below HC.out.1.ps.bel) HX.out.2.2.2.2.1 HX.out.2.2.2.2.2.2.1 HX.out.2.2.2.2.2.1 (by have a0 := HX.out.2.2.2.2.2.2.2.2.1; omega) (by decide) (by decide)
  rw [HX.out.2.2.2.2.2.2.2.2.2.1] at hc
  go_wp2_with fail
  go_at_call 61
  refine hc.mono ?_
  rintro e w3 ⟨rfl, r3, c3⟩
  clear hc
  have HE3 : Hid _ := And.intro (HC.out.1.next r3 c3) (Nat.le_trans HC.out.1.ps.bel.size c3.size)
  have f3 := HE3.out.1.ps.rd.c2
  clear r3 c3
  have ht := takeS_ok (w.heap.size + 1 + 1) b off n cap (5 + 1) L1 xs w3 HE3.out.1.ps.rd (HX.out.2.2.2.1.below HE3.out.1.ps.bel) HX.out.2.2.2.2.2.2.1 HX.out.2.2.2.2.2.1 (by have a0 := HX.out.2.2.2.2.2.2.2.2.2.2.2.1; omega)
  have b1 : decide ((8 : Int) < (L1 : Int)) = false := decide_eq_false (by have a0 := HX.out.2.2.2.2.2.2.2.2.2.2.1; omega)
  go_wp2_with fail
  go_at_call 62
  refine ht.mono ?_
  rintro e w4 ⟨vd, rfl, o4, r4, c4⟩
  clear ht f3
  obtain ⟨da, dp, ed⟩ := (row_of_owns o4).form
  rw [sub_len xs (5 + 1) L1 (by have a0 := HX.out.2.2.2.2.2.2.2.1; have a1 := HX.out.2.2.2.2.2.2.2.2.2.2.2.1; omega)] at ed
  subst ed
  have HT4 := HE3.out.1.next r4 c4
  have s2 : w4.cell? ⟨w2.heap.size, 2, none⟩ = some (.slice none 0 0) := (hdB_cells HT4.hd).2.2.1
  have s2f : w4.frozen? ⟨w2.heap.size, 2, none⟩ = false := (hdB_free HT4.hd).2.2.1
  have HF4 : Hid _ := And.intro (HT4.set2 (.slice da L1 dp)) (And.intro o4 c4.size)
  clear HT4 r4 c4 o4
  have hc := fixedS_ok (w.heap.size + 1 + 1) b off n cap (6 + L1) 1 xs _ (show srB _ _ _ ((6 + L1 : Nat) : Int) _ from HF4.out.1.ps.rd) (HX.out.2.2.2.1.below HF4.out.1.ps.bel) HX.out.2.2.2.2.1 HX.out.2.2.2.2.2.2.1 HX.out.2.2.2.2.2.1 (by have a0 := HX.out.2.2.2.2.2.2.2.2.2.2.2.2.1; omega) (by decide) (by decide)
  rw [HX.out.2.2.2.2.2.2.2.2.2.2.2.2.2.1] at hc
  go_wp2_with fail
  go_at_call 61
  refine hc.mono ?_
  rintro e w5 ⟨rfl, r5, c5⟩
  clear hc s2 s2f b1
  have HE5 : Hid _ := And.intro (HF4.out.1.next r5 c5) c5
  have f5 := HE5.out.1.ps.rd.c2
  clear r5 c5
  have ht := takeS_ok (w.heap.size + 1 + 1) b off n cap (6 + L1 + 1) L2 xs w5 HE5.out.1.ps.rd (HX.out.2.2.2.1.below HE5.out.1.ps.bel) HX.out.2.2.2.2.2.2.1 HX.out.2.2.2.2.2.1 (by have a0 := HX.out.2.2.2.2.2.2.2.2.2.2.2.2.2.2.2.1; omega)
  have b2 : decide ((8 : Int) < (L2 : Int)) = false := decide_eq_false (by have a0 := HX.out.2.2.2.2.2.2.2.2.2.2.2.2.2.2.1; omega)
  go_wp2_with fail
  go_at_call 62
  refine ht.mono ?_
  rintro e w6 ⟨vs, rfl, o6, r6, c6⟩
  clear ht f5
  obtain ⟨sa, sp, es⟩ := (row_of_owns o6).form
  rw [sub_len xs (6 + L1 + 1) L2 (by have a0 := HX.out.2.2.2.2.2.2.2.1; have a1 := HX.out.2.2.2.2.2.2.2.2.2.2.2.2.2.2.2.1; omega)] at es
  subst es
  have HT6 := HE5.out.1.next r6 c6
  have s3 : w6.cell? ⟨w2.heap.size, 3, none⟩ = some (.slice none 0 0) := (hdB_cells HT6.hd).2.2.2.1
  have s3f : w6.frozen? ⟨w2.heap.size, 3, none⟩ = false := (hdB_free HT6.hd).2.2.2.1
  have hbl : w2.heap.size < w3.heap.size := (Array.getElem?_eq_some_iff.1 HE3.out.1.hd).1
  have hgl := HE3.out.1.ps.rd.lt
  have hs45 : w4.heap.size ≤ w5.heap.size := by have h := HE5.out.2.size; rw [sizeS] at h; exact h
  have hs34 : w3.heap.size ≤ w4.heap.size := HF4.out.2.2
  have cZ : Chg (SG (w.heap.size + 1 + 1) w2.heap.size) w4 (w6.setCell ⟨w2.heap.size, 3, none⟩ (.slice sa L2 sp)) := ((((Chg.refl (SG (w.heap.size + 1 + 1) w2.heap.size) w4).setP 2 (.slice da L1 dp)).trans HE5.out.2.toG).trans c6.toG).setP 3 (.slice sa L2 sp)
  have od := cZ.ownsG HF4.out.2.1 hgl hbl
  have os : (w6.setCell ⟨w2.heap.size, 3, none⟩ (.slice sa L2 sp)).ownsRow w5.heap.size 5 1 (.slice sa L2 sp) L2 ((sub xs (6 + L1 + 1) L2).map (Value.int .u8)) := owns_set o6 (by omega)
  have HO : Hid _ := And.intro od (And.intro os (And.intro (apart_of HF4.out.2.1 o6 hs45) (And.intro hgl (And.intro hbl (And.intro (Nat.le_trans hs34 hs45) (by have := HE3.out.2; omega : w.heap.size < w3.heap.size))))))
  have HF6 : Hid _ := And.intro (HT6.set3 (.slice sa L2 sp)) True.intro
  have f6 := HF6.out.1.ps.rd.c2
  have v6 := (hdB_cells HF6.out.1.hd).2.1
  clear HT6 r6 c6 o6 cZ od os hgl hbl hs45 hs34
  have z0 : (V == 0) = false := by rw [HVE.out.1]; have h := HX.out.2.2.2.2.2.2.2.2.2.2.2.2.2.2.2.2.1; simpa using h
  have z1 : decide (f < 192) = false := by rw [HFE.out.1]; exact decide_eq_false (by have a0 := HX.out.2.2.2.2.2.2.2.2.2.2.2.2.2.2.2.2.2.1; omega)
  have zw : IntKind.i64.wrap (f - 192) = f - 192 := by rw [IntKind.wrap_i64, HFE.out.1]; have h1 := HX.out.2.2.2.2.2.2.2.2.2.2.2.2.2.2.2.2.2.1; have h2 := HX.out.2.2.2.2.2.2.2.2.2.2.2.2.2.2.2.2.2.2.1; omega
  have zq : (f - 192).tdiv 16 = 0 := by rw [HFE.out.1, Int.tdiv_eq_ediv_of_nonneg (by have h1 := HX.out.2.2.2.2.2.2.2.2.2.2.2.2.2.2.2.2.2.1; omega)]; have h1 := HX.out.2.2.2.2.2.2.2.2.2.2.2.2.2.2.2.2.2.1; have h2 := HX.out.2.2.2.2.2.2.2.2.2.2.2.2.2.2.2.2.2.2.1; omega
  have m1 := (hdB_cells HF6.out.1.hd).1
  have mf1 := (hdB_free HF6.out.1.hd).1
  have HM1 : Hid _ := And.intro (HF6.out.1.set0 (.int .i64 2)) ((Chg.refl (SG (w.heap.size + 1 + 1) w2.heap.size) (w6.setCell ⟨w2.heap.size, 3, none⟩ (.slice sa L2 sp))).setP 0 (.int .i64 2))
  have fm1 := HM1.out.1.ps.rd.c2
  have vm1 := (hdB_cells HM1.out.1.hd).2.1
  have m2 := (hdB_cells HM1.out.1.hd).1
  have mf2 := (hdB_free HM1.out.1.hd).1
  have HM2 : Hid _ := And.intro (HM1.out.1.set0 (.int .i64 1)) (HM1.out.2.setP 0 (.int .i64 1))
  have fm2 := HM2.out.1.ps.rd.c2
  have vm2 := (hdB_cells HM2.out.1.hd).2.1
  have hvr7 := variableS_ok (w.heap.size + 1 + 1) b off n cap (6 + L1 + 1 + L2) xs _ (show srB _ _ _ (((6 + L1 + 1 + L2) : Nat) : Int) _ from HM2.out.1.ps.rd) (HX.out.2.2.2.1.below HM2.out.1.ps.bel) HX.out.2.2.2.2.1 HX.out.2.2.2.2.2.1 HX.out.2.2.2.2.2.2.2.2.2.2.2.2.2.2.2.2.2.2.2.1
  rw [HX.out.2.2.2.2.2.2.2.2.2.2.2.2.2.2.2.2.2.2.2.2.1, HX.out.2.2.2.2.2.2.2.2.2.2.2.2.2.2.2.2.2.2.2.2.2.1] at hvr7
  go_wp2_with fail
  go_at_call 66
  refine hvr7.mono ?_
  rintro e w7 ⟨rfl, r7, c7⟩
  clear hvr7
  have HR7 : Hid _ := And.intro (HM2.out.1.next r7 c7) (HM2.out.2.trans c7.toG)
  have HC7 : Hid _ := And.intro c7 True.intro
  clear r7 c7
  have fr7 := HR7.out.1.ps.rd.c2
  have b3 : decide ((64 : Int) < (U : Int)) = false := decide_eq_false (by have a0 := HX.out.2.2.2.2.2.2.2.2.2.2.2.2.2.2.2.2.2.2.2.2.2.2.2.1; omega)
  have htk8 := takeS_ok (w.heap.size + 1 + 1) b off n cap M U xs _ (show srB _ _ _ ((M : Nat) : Int) _ from HR7.out.1.ps.rd) (HX.out.2.2.2.1.below HR7.out.1.ps.bel) HX.out.2.2.2.2.2.2.1 HX.out.2.2.2.2.2.1 (by have a0 := HX.out.2.2.2.2.2.2.2.2.2.2.2.2.2.2.2.2.2.2.2.2.2.2.2.2.1; omega)
  go_wp2_with fail
  go_at_call 62
  refine htk8.mono ?_
  rintro e w8 ⟨vt8, rfl, o8, r8, c8⟩
  clear htk8
  obtain ⟨ta, tp, et⟩ := (row_of_owns o8).form
  rw [sub_len xs M U (by have a0 := HX.out.2.2.2.2.2.2.2.1; have a1 := HX.out.2.2.2.2.2.2.2.2.2.2.2.2.2.2.2.2.2.2.2.2.2.2.2.2.1; omega)] at et
  subst et
  have HR8 : Hid _ := And.intro (HR7.out.1.next r8 c8) (And.intro (HR7.out.2.trans c8.toG) (And.intro o8 c8.size))
  have HC8 : Hid _ := And.intro c8 True.intro
  clear r8 c8 o8
  have fr8 := HR8.out.1.ps.rd.c2
  have mt := (hdB_cells HR8.out.1.hd).2.2.2.2.1
  have mtf := (hdB_free HR8.out.1.hd).2.2.2.2.1
  have HT : Hid _ := And.intro (HR8.out.1.set4 (.slice ta U tp)) (HR8.out.2.1.setP 4 (.slice ta U tp))
  have ft := HT.out.1.ps.rd.c2
  have hvr9 := variableS_ok (w.heap.size + 1 + 1) b off n cap (M + U) xs _ (show srB _ _ _ (((M + U) : Nat) : Int) _ from HT.out.1.ps.rd) (HX.out.2.2.2.1.below HT.out.1.ps.bel) HX.out.2.2.2.2.1 HX.out.2.2.2.2.2.1 HX.out.2.2.2.2.2.2.2.2.2.2.2.2.2.2.2.2.2.2.2.2.2.2.2.2.2.1
  rw [HX.out.2.2.2.2.2.2.2.2.2.2.2.2.2.2.2.2.2.2.2.2.2.2.2.2.2.2.1, HX.out.2.2.2.2.2.2.2.2.2.2.2.2.2.2.2.2.2.2.2.2.2.2.2.2.2.2.2.1] at hvr9
  go_wp2_with fail
  go_at_call 66
  refine hvr9.mono ?_
  rintro e w9 ⟨rfl, r9, c9⟩
  clear hvr9
  have HR9 : Hid _ := And.intro (HT.out.1.next r9 c9) (HT.out.2.trans c9.toG)
  have HC9 : Hid _ := And.intro c9 True.intro
  clear r9 c9
  have fr9 := HR9.out.1.ps.rd.c2
  have b5 : decide ((U2 : Int) < 12) = true := decide_eq_true (by have a0 := HX.out.2.2.2.2.2.2.2.2.2.2.2.2.2.2.2.2.2.2.2.2.2.2.2.2.2.2.2.2; omega)
  obtain ⟨zc0, zc1, zc2, zc3, zc4, zc5, zc6, zc7⟩ := hdB_cells HR9.out.1.ps.r0
  obtain ⟨zf0, zf1, zf2, zf3, zf4, zf5, zf6, zf7⟩ := hdB_free HR9.out.1.ps.r0
  obtain ⟨zn0, zn1, zn2, zn3, zn4, zn5, zn6, zn7⟩ := hdB_cells HR9.out.1.ps.r1
  have hfl := faultS_f (w.heap.size + 1 + 1) _ _ w9.drew HR9.out.1.ps.rd.drewX
  go_wp2_with fail
  go_region_with (go_at_call 63; refine hfl.mono ?_; rintro e wz ⟨rfl, hwz⟩; rw [hwz]; clear hwz wz)
  all_goals (go_wp2_with fail)
  all_goals (refine bodyPost_ret (v := .tuple #[.agg #[.int .i64 0, .int .i64 0, .slice none 0 0, .slice none 0 0, .slice none 0 0, .int .i64 0, .int .i64 0, .int .i64 0], .int .i64 0, .int .i64 3]) ?_ rfl ?_)
  all_goals first
    | exact results_row_tmp2 (t := 24) rfl _ _ w.heap.size _ (fr := (0, 0)) _ _ _ rfl rfl rfl HR9.out.1.ps.zendD.2 Tryz.underlying24 rfl infoHd
    | exact ⟨HR9.out.1.ps.zendD.1, Or.inl ⟨3, HX.out.1.trans HX.out.2.1, rfl⟩⟩
set_option maxRecDepth 20000 in
set_option maxHeartbeats 4000000 in
theorem peekS_l20 (b off n cap m : Nat) (xs : List Int) (w : World) (hl : Lies w b off n cap xs) (hB : Bytes xs) (hn : n ≤ 65536) (h1 : 1 ≤ n) (hm : m ≤ 8) (hF : ¬ vals (sub xs 0 1) < 128) (h6 : ¬ n < 6) (L1 : Nat) (hL1 : vals (sub xs 5 1) = (L1 : Int)) (h81 : ¬ 8 < L1) (hs1 : ¬ n < 6 + L1) (h7 : ¬ n < 7 + L1) (L2 : Nat) (hL2 : vals (sub xs (6 + L1) 1) = (L2 : Int)) (h82 : ¬ 8 < L2) (hs2 : ¬ n < 7 + L1 + L2) (hv0 : ¬ vals (sub xs 1 4) = 0) (hk1 : 192 ≤ vals (sub xs 0 1)) (hk2 : vals (sub xs 0 1) < 208) (hv : varOK xs (6 + L1 + 1 + L2)) (U M : Nat) (hU : varV xs (6 + L1 + 1 + L2) = (U : Int)) (hM : varN xs (6 + L1 + 1 + L2) = M) (hMn : M ≤ n) (h64 : ¬ 64 < U) (hst : ¬ n < M + U) (hv2 : varOK xs (M + U)) (U2 M2 : Nat) (hU2 : varV xs (M + U) = (U2 : Int)) (hM2 : varN xs (M + U) = M2) (hb : ¬ U2 < 12) (hb2 : 1508 < U2) :
    Calls Tryz.prog 38 #[.slice (some ⟨b, off, none⟩) n cap, .int .i64 m] w fun e w' => PkPost xs m w e w' := by
  have hlen := hl.len
  have P0 := ps_new w (.slice (some ⟨b, off, none⟩) n cap)
  have hbg : b ≠ w.heap.size + 1 + 1 := by have := hl.lt; omega
  have hf := fixedS_ok (w.heap.size + 1 + 1) b off n cap 0 1 xs _ P0.rd (hl.below P0.bel) hB hbg hn (by omega) (by decide) (by decide)
  have eP := pk_long xs m (by omega) (by omega) hm hF
  have e : pkLong xs (vals (sub xs 0 1)) = .error 3 := by rw [pkLong_4 (by omega) (cid_ok xs 5 L1 (by omega) hL1 h81 (by omega)) (show pkCid xs (5 + 1 + L1) = .ok _ by rw [show 5 + 1 + L1 = 6 + L1 from rfl]; exact cid_ok xs (6 + L1) L2 (by omega) hL2 h82 (by omega))]; unfold pkTail; have hq : lform (vals (sub xs 0 1)) = 1 := (by unfold lform; rw [if_neg (by omega), if_pos hk2]); rw [if_neg hv0, hq, if_neg (by decide), if_pos rfl]; unfold pkIni; rw [if_pos hv, hU, hM, if_neg (by omega), Int.toNat_natCast, if_neg (by omega), beh_e2 xs _ U2 hv2 hU2 (Or.inr hb2)]
  have d1 : decide (vals (sub xs 0 1) < 64) = false := decide_eq_false (by omega)
  have d1b : decide (vals (sub xs 0 1) < 128) = false := decide_eq_false hF
  have HX : Hid _ := And.intro eP (And.intro e (And.intro P0 (And.intro hl (And.intro hB (And.intro hn (And.intro hbg (And.intro hlen (And.intro h6 (And.intro hL1 (And.intro h81 (And.intro hs1 (And.intro h7 (And.intro hL2 (And.intro h82 (And.intro hs2 (And.intro hv0 (And.intro hk1 (And.intro hk2 (And.intro hv (And.intro hU (And.intro hM (And.intro hMn (And.intro h64 (And.intro hst (And.intro hv2 (And.intro hU2 (And.intro hM2 (And.intro hb hb2))))))))))))))))))))))))))))
  clear eP e P0 hl hB hbg hlen hF hn h1 h6 hL1 h81 hs1 h7 hL2 h82 hs2 hv0 hk1 hk2 hv hU hM hMn h64 hst hv2 hU2 hM2 hb hb2
  obtain ⟨f, hfe⟩ : ∃ f, f = vals (sub xs 0 1) := ⟨_, rfl⟩
  rw [← hfe] at hf d1 d1b
  have HFE : Hid _ := And.intro hfe True.intro
  clear hfe
  go_enter Tryz.func38, Tryz.ntmps38
  go_wp2_with fail
  go_at_call 61
  refine hf.mono ?_
  rintro e w1 ⟨rfl, r1, c1⟩
  clear hf
  have HA : Hid _ := And.intro (HX.out.2.2.1.next r1 c1) True.intro
  have f1 := HA.out.1.rd.c2
  clear r1 c1
  have hv := fixedS_ok (w.heap.size + 1 + 1) b off n cap (0 + 1) 4 xs w1 HA.out.1.rd (HX.out.2.2.2.1.below HA.out.1.bel) HX.out.2.2.2.2.1 HX.out.2.2.2.2.2.2.1 HX.out.2.2.2.2.2.1 (by have a0 := HX.out.2.2.2.2.2.2.2.2.1; omega) (by decide) (by decide)
  obtain ⟨V, hVe⟩ : ∃ V, V = vals (sub xs (0 + 1) 4) := ⟨_, rfl⟩
  rw [← hVe] at hv
  have HVE : Hid _ := And.intro hVe True.intro
  clear hVe
  go_wp2_with fail
  go_at_call 61
  refine hv.mono ?_
  rintro e w2 ⟨rfl, r2, c2⟩
  clear hv f1
  have HC : Hid _ := And.intro (ph_new (HA.out.1.next r2 c2) V) True.intro
  clear r2 c2
  have hc := fixedS_ok (w.heap.size + 1 + 1) b off n cap 5 1 xs _ (show srB _ _ _ ((5 : Nat) : Int) _ from HC.out.1.ps.rd) (HX.out.2.2.2.1.below HC.out.1.ps.bel) HX.out.2.2.2.2.1 HX.out.2.2.2.2.2.2.1 HX.out.2.2.2.2.2.1 (by have a0 := HX.out.2.2.2.2.2.2.2.2.1; omega) (by decide) (by decide)
  rw [HX.out.2.2.2.2.2.2.2.2.2.1] at hc
  go_wp2_with fail
  go_at_call 61
  refine hc.mono ?_
  rintro e w3 ⟨rfl, r3, c3⟩
  clear hc
  have HE3 : Hid _ := And.intro (HC.out.1.next r3 c3) (Nat.le_trans HC.out.1.ps.bel.size c3.size)
  have f3 := HE3.out.1.ps.rd.c2
  clear r3 c3
  have ht := takeS_ok (w.heap.size + 1 + 1) b off n cap (5 + 1) L1 xs w3 HE3.out.1.ps.rd (HX.out.2.2.2.1.below HE3.out.1.ps.bel) HX.out.2.2.2.2.2.2.1 HX.out.2.2.2.2.2.1 (by have a0 := HX.out.2.2.2.2.2.2.2.2.2.2.2.1; omega)
  have b1 : decide ((8 : Int) < (L1 : Int)) = false := decide_eq_false (by have a0 := HX.out.2.2.2.2.2.2.2.2.2.2.1; omega)
  go_wp2_with fail
  go_at_call 62
  refine ht.mono ?_
  rintro e w4 ⟨vd, rfl, o4, r4, c4⟩
  clear ht f3
  obtain ⟨da, dp, ed⟩ := (row_of_owns o4).form
  rw [sub_len xs (5 + 1) L1 (by have a0 := HX.out.2.2.2.2.2.2.2.1; have a1 := HX.out.2.2.2.2.2.2.2.2.2.2.2.1; omega)] at ed
  subst ed
  have HT4 := HE3.out.1.next r4 c4
  have s2 : w4.cell? ⟨w2.heap.size, 2, none⟩ = some (.slice none 0 0) := (hdB_cells HT4.hd).2.2.1
  have s2f : w4.frozen? ⟨w2.heap.size, 2, none⟩ = false := (hdB_free HT4.hd).2.2.1
  have HF4 : Hid _ := And.intro (HT4.set2 (.slice da L1 dp)) (And.intro o4 c4.size)
  clear HT4 r4 c4 o4
  have hc := fixedS_ok (w.heap.size + 1 + 1) b off n cap (6 + L1) 1 xs _ (show srB _ _ _ ((6 + L1 : Nat) : Int) _ from HF4.out.1.ps.rd) (HX.out.2.2.2.1.below HF4.out.1.ps.bel) HX.out.2.2.2.2.1 HX.out.2.2.2.2.2.2.1 HX.out.2.2.2.2.2.1 (by have a0 := HX.out.2.2.2.2.2.2.2.2.2.2.2.2.1; omega) (by decide) (by decide)
  rw [HX.out.2.2.2.2.2.2.2.2.2.2.2.2.2.1] at hc
  go_wp2_with fail
  go_at_call 61
  refine hc.mono ?_
  rintro e w5 ⟨rfl, r5, c5⟩
  clear hc s2 s2f b1
  have HE5 : Hid _ := And.intro (HF4.out.1.next r5 c5) c5
  have f5 := HE5.out.1.ps.rd.c2
  clear r5 c5
  have ht := takeS_ok (w.heap.size + 1 + 1) b off n cap (6 + L1 + 1) L2 xs w5 HE5.out.1.ps.rd (HX.out.2.2.2.1.below HE5.out.1.ps.bel) HX.out.2.2.2.2.2.2.1 HX.out.2.2.2.2.2.1 (by have a0 := HX.out.2.2.2.2.2.2.2.2.2.2.2.2.2.2.2.1; omega)
  have b2 : decide ((8 : Int) < (L2 : Int)) = false := decide_eq_false (by have a0 := HX.out.2.2.2.2.2.2.2.2.2.2.2.2.2.2.1; omega)
  go_wp2_with fail
  go_at_call 62
  refine ht.mono ?_
  rintro e w6 ⟨vs, rfl, o6, r6, c6⟩
  clear ht f5
  obtain ⟨sa, sp, es⟩ := (row_of_owns o6).form
  rw [sub_len xs (6 + L1 + 1) L2 (by have a0 := HX.out.2.2.2.2.2.2.2.1; have a1 := HX.out.2.2.2.2.2.2.2.2.2.2.2.2.2.2.2.1; omega)] at es
  subst es
  have HT6 := HE5.out.1.next r6 c6
  have s3 : w6.cell? ⟨w2.heap.size, 3, none⟩ = some (.slice none 0 0) := (hdB_cells HT6.hd).2.2.2.1
  have s3f : w6.frozen? ⟨w2.heap.size, 3, none⟩ = false := (hdB_free HT6.hd).2.2.2.1
  have hbl : w2.heap.size < w3.heap.size := (Array.getElem?_eq_some_iff.1 HE3.out.1.hd).1
  have hgl := HE3.out.1.ps.rd.lt
  have hs45 : w4.heap.size ≤ w5.heap.size := by have h := HE5.out.2.size; rw [sizeS] at h; exact h
  have hs34 : w3.heap.size ≤ w4.heap.size := HF4.out.2.2
  have cZ : Chg (SG (w.heap.size + 1 + 1) w2.heap.size) w4 (w6.setCell ⟨w2.heap.size, 3, none⟩ (.slice sa L2 sp)) := ((((Chg.refl (SG (w.heap.size + 1 + 1) w2.heap.size) w4).setP 2 (.slice da L1 dp)).trans HE5.out.2.toG).trans c6.toG).setP 3 (.slice sa L2 sp)
  have od := cZ.ownsG HF4.out.2.1 hgl hbl
  have os : (w6.setCell ⟨w2.heap.size, 3, none⟩ (.slice sa L2 sp)).ownsRow w5.heap.size 5 1 (.slice sa L2 sp) L2 ((sub xs (6 + L1 + 1) L2).map (Value.int .u8)) := owns_set o6 (by omega)
  have HO : Hid _ := And.intro od (And.intro os (And.intro (apart_of HF4.out.2.1 o6 hs45) (And.intro hgl (And.intro hbl (And.intro (Nat.le_trans hs34 hs45) (by have := HE3.out.2; omega : w.heap.size < w3.heap.size))))))
  have HF6 : Hid _ := And.intro (HT6.set3 (.slice sa L2 sp)) True.intro
  have f6 := HF6.out.1.ps.rd.c2
  have v6 := (hdB_cells HF6.out.1.hd).2.1
  clear HT6 r6 c6 o6 cZ od os hgl hbl hs45 hs34
  have z0 : (V == 0) = false := by rw [HVE.out.1]; have h := HX.out.2.2.2.2.2.2.2.2.2.2.2.2.2.2.2.2.1; simpa using h
  have z1 : decide (f < 192) = false := by rw [HFE.out.1]; exact decide_eq_false (by have a0 := HX.out.2.2.2.2.2.2.2.2.2.2.2.2.2.2.2.2.2.1; omega)
  have zw : IntKind.i64.wrap (f - 192) = f - 192 := by rw [IntKind.wrap_i64, HFE.out.1]; have h1 := HX.out.2.2.2.2.2.2.2.2.2.2.2.2.2.2.2.2.2.1; have h2 := HX.out.2.2.2.2.2.2.2.2.2.2.2.2.2.2.2.2.2.2.1; omega
  have zq : (f - 192).tdiv 16 = 0 := by rw [HFE.out.1, Int.tdiv_eq_ediv_of_nonneg (by have h1 := HX.out.2.2.2.2.2.2.2.2.2.2.2.2.2.2.2.2.2.1; omega)]; have h1 := HX.out.2.2.2.2.2.2.2.2.2.2.2.2.2.2.2.2.2.1; have h2 := HX.out.2.2.2.2.2.2.2.2.2.2.2.2.2.2.2.2.2.2.1; omega
  have m1 := (hdB_cells HF6.out.1.hd).1
  have mf1 := (hdB_free HF6.out.1.hd).1
  have HM1 : Hid _ := And.intro (HF6.out.1.set0 (.int .i64 2)) ((Chg.refl (SG (w.heap.size + 1 + 1) w2.heap.size) (w6.setCell ⟨w2.heap.size, 3, none⟩ (.slice sa L2 sp))).setP 0 (.int .i64 2))
  have fm1 := HM1.out.1.ps.rd.c2
  have vm1 := (hdB_cells HM1.out.1.hd).2.1
  have m2 := (hdB_cells HM1.out.1.hd).1
  have mf2 := (hdB_free HM1.out.1.hd).1
  have HM2 : Hid _ := And.intro (HM1.out.1.set0 (.int .i64 1)) (HM1.out.2.setP 0 (.int .i64 1))
  have fm2 := HM2.out.1.ps.rd.c2
  have vm2 := (hdB_cells HM2.out.1.hd).2.1
  have hvr7 := variableS_ok (w.heap.size + 1 + 1) b off n cap (6 + L1 + 1 + L2) xs _ (show srB _ _ _ (((6 + L1 + 1 + L2) : Nat) : Int) _ from HM2.out.1.ps.rd) (HX.out.2.2.2.1.below HM2.out.1.ps.bel) HX.out.2.2.2.2.1 HX.out.2.2.2.2.2.1 HX.out.2.2.2.2.2.2.2.2.2.2.2.2.2.2.2.2.2.2.2.1
  rw [HX.out.2.2.2.2.2.2.2.2.2.2.2.2.2.2.2.2.2.2.2.2.1, HX.out.2.2.2.2.2.2.2.2.2.2.2.2.2.2.2.2.2.2.2.2.2.1] at hvr7
  go_wp2_with fail
  go_at_call 66
  refine hvr7.mono ?_
  rintro e w7 ⟨rfl, r7, c7⟩
  clear hvr7
  have HR7 : Hid _ := And.intro (HM2.out.1.next r7 c7) (HM2.out.2.trans c7.toG)
  have HC7 : Hid _ := And.intro c7 True.intro
  clear r7 c7
  have fr7 := HR7.out.1.ps.rd.c2
  have b3 : decide ((64 : Int) < (U : Int)) = false := decide_eq_false (by have a0 := HX.out.2.2.2.2.2.2.2.2.2.2.2.2.2.2.2.2.2.2.2.2.2.2.2.1; omega)
  have htk8 := takeS_ok (w.heap.size + 1 + 1) b off n cap M U xs _ (show srB _ _ _ ((M : Nat) : Int) _ from HR7.out.1.ps.rd) (HX.out.2.2.2.1.below HR7.out.1.ps.bel) HX.out.2.2.2.2.2.2.1 HX.out.2.2.2.2.2.1 (by have a0 := HX.out.2.2.2.2.2.2.2.2.2.2.2.2.2.2.2.2.2.2.2.2.2.2.2.2.1; omega)
  go_wp2_with fail
  go_at_call 62
  refine htk8.mono ?_
  rintro e w8 ⟨vt8, rfl, o8, r8, c8⟩
  clear htk8
  obtain ⟨ta, tp, et⟩ := (row_of_owns o8).form
  rw [sub_len xs M U (by have a0 := HX.out.2.2.2.2.2.2.2.1; have a1 := HX.out.2.2.2.2.2.2.2.2.2.2.2.2.2.2.2.2.2.2.2.2.2.2.2.2.1; omega)] at et
  subst et
  have HR8 : Hid _ := And.intro (HR7.out.1.next r8 c8) (And.intro (HR7.out.2.trans c8.toG) (And.intro o8 c8.size))
  have HC8 : Hid _ := And.intro c8 True.intro
  clear r8 c8 o8
  have fr8 := HR8.out.1.ps.rd.c2
  have mt := (hdB_cells HR8.out.1.hd).2.2.2.2.1
  have mtf := (hdB_free HR8.out.1.hd).2.2.2.2.1
  have HT : Hid _ := And.intro (HR8.out.1.set4 (.slice ta U tp)) (HR8.out.2.1.setP 4 (.slice ta U tp))
  have ft := HT.out.1.ps.rd.c2
  have hvr9 := variableS_ok (w.heap.size + 1 + 1) b off n cap (M + U) xs _ (show srB _ _ _ (((M + U) : Nat) : Int) _ from HT.out.1.ps.rd) (HX.out.2.2.2.1.below HT.out.1.ps.bel) HX.out.2.2.2.2.1 HX.out.2.2.2.2.2.1 HX.out.2.2.2.2.2.2.2.2.2.2.2.2.2.2.2.2.2.2.2.2.2.2.2.2.2.1
  rw [HX.out.2.2.2.2.2.2.2.2.2.2.2.2.2.2.2.2.2.2.2.2.2.2.2.2.2.2.1, HX.out.2.2.2.2.2.2.2.2.2.2.2.2.2.2.2.2.2.2.2.2.2.2.2.2.2.2.2.1] at hvr9
  go_wp2_with fail
  go_at_call 66
  refine hvr9.mono ?_
  rintro e w9 ⟨rfl, r9, c9⟩
  clear hvr9
  have HR9 : Hid _ := And.intro (HT.out.1.next r9 c9) (HT.out.2.trans c9.toG)
  have HC9 : Hid _ := And.intro c9 True.intro
  clear r9 c9
  have fr9 := HR9.out.1.ps.rd.c2
  have b5 : decide ((U2 : Int) < 12) = false := decide_eq_false (by have a0 := HX.out.2.2.2.2.2.2.2.2.2.2.2.2.2.2.2.2.2.2.2.2.2.2.2.2.2.2.2.2.1; omega)
  have b6 : decide ((1508 : Int) < (U2 : Int)) = true := decide_eq_true (by have a0 := HX.out.2.2.2.2.2.2.2.2.2.2.2.2.2.2.2.2.2.2.2.2.2.2.2.2.2.2.2.2.2; omega)
  obtain ⟨zc0, zc1, zc2, zc3, zc4, zc5, zc6, zc7⟩ := hdB_cells HR9.out.1.ps.r0
  obtain ⟨zf0, zf1, zf2, zf3, zf4, zf5, zf6, zf7⟩ := hdB_free HR9.out.1.ps.r0
  obtain ⟨zn0, zn1, zn2, zn3, zn4, zn5, zn6, zn7⟩ := hdB_cells HR9.out.1.ps.r1
  have hfl := faultS_f (w.heap.size + 1 + 1) _ _ w9.drew HR9.out.1.ps.rd.drewX
  go_wp2_with fail
  go_region_with (go_at_call 63; refine hfl.mono ?_; rintro e wz ⟨rfl, hwz⟩; rw [hwz]; clear hwz wz)
  all_goals (go_wp2_with fail)
  all_goals (refine bodyPost_ret (v := .tuple #[.agg #[.int .i64 0, .int .i64 0, .slice none 0 0, .slice none 0 0, .slice none 0 0, .int .i64 0, .int .i64 0, .int .i64 0], .int .i64 0, .int .i64 3]) ?_ rfl ?_)
  all_goals first
    | exact results_row_tmp2 (t := 24) rfl _ _ w.heap.size _ (fr := (0, 0)) _ _ _ rfl rfl rfl HR9.out.1.ps.zendD.2 Tryz.underlying24 rfl infoHd
    | exact ⟨HR9.out.1.ps.zendD.1, Or.inl ⟨3, HX.out.1.trans HX.out.2.1, rfl⟩⟩
end Go.Proofs.YtoalillggafnpaaGreatDoor

namespace Go.Proofs.YtoalillggafnpaaGreatDoor
open Go.RowKit
set_option linter.unusedVariables false

set_option maxRecDepth 20000 in
set_option maxHeartbeats 4000000 in
theorem peekS_l21 (b off n cap m : Nat) (xs : List Int) (w : World) (hl : Lies w b off n cap xs) (hB : Bytes xs) (hn : n ≤ 65536) (h1 : 1 ≤ n) (hm : m ≤ 8) (hF : ¬ vals (sub xs 0 1) < 128) (h6 : ¬ n < 6) (L1 : Nat) (hL1 : vals (sub xs 5 1) = (L1 : Int)) (h81 : ¬ 8 < L1) (hs1 : ¬ n < 6 + L1) (h7 : ¬ n < 7 + L1) (L2 : Nat) (hL2 : vals (sub xs (6 + L1) 1) = (L2 : Int)) (h82 : ¬ 8 < L2) (hs2 : ¬ n < 7 + L1 + L2) (hv0 : ¬ vals (sub xs 1 4) = 0) (hk1 : 192 ≤ vals (sub xs 0 1)) (hk2 : vals (sub xs 0 1) < 208) (hv : varOK xs (6 + L1 + 1 + L2)) (U M : Nat) (hU : varV xs (6 + L1 + 1 + L2) = (U : Int)) (hM : varN xs (6 + L1 + 1 + L2) = M) (hMn : M ≤ n) (h64 : ¬ 64 < U) (hst : ¬ n < M + U) (hv2 : varOK xs (M + U)) (U2 M2 : Nat) (hU2 : varV xs (M + U) = (U2 : Int)) (hM2 : varN xs (M + U) = M2) (hM2n : M2 ≤ n) (hb : ¬ U2 < 12) (hb2 : ¬ 1508 < U2) (hs3 : n < M2 + U2) :
    Calls Tryz.prog 38 #[.slice (some ⟨b, off, none⟩) n cap, .int .i64 m] w fun e w' => PkPost xs m w e w' := by
  have hlen := hl.len
  have P0 := ps_new w (.slice (some ⟨b, off, none⟩) n cap)
  have hbg : b ≠ w.heap.size + 1 + 1 := by have := hl.lt; omega
  have hf := fixedS_ok (w.heap.size + 1 + 1) b off n cap 0 1 xs _ P0.rd (hl.below P0.bel) hB hbg hn (by omega) (by decide) (by decide)
  have eP := pk_long xs m (by omega) (by omega) hm hF
  have e : pkLong xs (vals (sub xs 0 1)) = .error 2 := by rw [pkLong_4 (by omega) (cid_ok xs 5 L1 (by omega) hL1 h81 (by omega)) (show pkCid xs (5 + 1 + L1) = .ok _ by rw [show 5 + 1 + L1 = 6 + L1 from rfl]; exact cid_ok xs (6 + L1) L2 (by omega) hL2 h82 (by omega))]; unfold pkTail; have hq : lform (vals (sub xs 0 1)) = 1 := (by unfold lform; rw [if_neg (by omega), if_pos hk2]); rw [if_neg hv0, hq, if_neg (by decide), if_pos rfl]; unfold pkIni; rw [if_pos hv, hU, hM, if_neg (by omega), Int.toNat_natCast, if_neg (by omega), beh_e3 xs _ U2 M2 hv2 hU2 hM2 (by omega) (by omega)]
  have d1 : decide (vals (sub xs 0 1) < 64) = false := decide_eq_false (by omega)
  have d1b : decide (vals (sub xs 0 1) < 128) = false := decide_eq_false hF
  have HX : Hid _ := And.intro eP (And.intro e (And.intro P0 (And.intro hl (And.intro hB (And.intro hn (And.intro hbg (And.intro hlen (And.intro h6 (And.intro hL1 (And.intro h81 (And.intro hs1 (And.intro h7 (And.intro hL2 (And.intro h82 (And.intro hs2 (And.intro hv0 (And.intro hk1 (And.intro hk2 (And.intro hv (And.intro hU (And.intro hM (And.intro hMn (And.intro h64 (And.intro hst (And.intro hv2 (And.intro hU2 (And.intro hM2 (And.intro hM2n (And.intro hb (And.intro hb2 hs3))))))))))))))))))))))))))))))
  clear eP e P0 hl hB hbg hlen hF hn h1 h6 hL1 h81 hs1 h7 hL2 h82 hs2 hv0 hk1 hk2 hv hU hM hMn h64 hst hv2 hU2 hM2 hM2n hb hb2 hs3
  obtain ⟨f, hfe⟩ : ∃ f, f = vals (sub xs 0 1) := ⟨_, rfl⟩
  rw [← hfe] at hf d1 d1b
  have HFE : Hid _ := And.intro hfe True.intro
  clear hfe
  go_enter Tryz.func38, Tryz.ntmps38
  go_wp2_with fail
  go_at_call 61
  refine hf.mono ?_
  rintro e w1 ⟨rfl, r1, c1⟩
  clear hf
  have HA : Hid _ := And.intro (HX.out.2.2.1.next r1 c1) True.intro
  have f1 := HA.out.1.rd.c2
  clear r1 c1
  have hv := fixedS_ok (w.heap.size + 1 + 1) b off n cap (0 + 1) 4 xs w1 HA.out.1.rd (HX.out.2.2.2.1.below HA.out.1.bel) HX.out.2.2.2.2.1 HX.out.2.2.2.2.2.2.1 HX.out.2.2.2.2.2.1 (by have a0 := HX.out.2.2.2.2.2.2.2.2.1; omega) (by decide) (by decide)
  obtain ⟨V, hVe⟩ : ∃ V, V = vals (sub xs (0 + 1) 4) := ⟨_, rfl⟩
  rw [← hVe] at hv
  have HVE : Hid _ := And.intro hVe True.intro
  clear hVe
  go_wp2_with fail
  go_at_call 61
  refine hv.mono ?_
  rintro e w2 ⟨rfl, r2, c2⟩
  clear hv f1
  have HC : Hid _ := And.intro (ph_new (HA.out.1.next r2 c2) V) True.intro
  clear r2 c2
  have hc := fixedS_ok (w.heap.size + 1 + 1) b off n cap 5 1 xs _ (show srB _ _ _ ((5 : Nat) : Int) _ from HC.out.1.ps.rd) (HX.out.2.2.2.1.below HC.out.1.ps.bel) HX.out.2.2.2.2.1 HX.out.2.2.2.2.2.2.1 HX.out.2.2.2.2.2.1 (by have a0 := HX.out.2.2.2.2.2.2.2.2.1; omega) (by decide) (by decide)
  rw [HX.out.2.2.2.2.2.2.2.2.2.1] at hc
  go_wp2_with fail
  go_at_call 61
  refine hc.mono ?_
  rintro e w3 ⟨rfl, r3, c3⟩
  clear hc
  have HE3 : Hid _ := And.intro (HC.out.1.next r3 c3) (Nat.le_trans HC.out.1.ps.bel.size c3.size)
  have f3 := HE3.out.1.ps.rd.c2
  clear r3 c3
  have ht := takeS_ok (w.heap.size + 1 + 1) b off n cap (5 + 1) L1 xs w3 HE3.out.1.ps.rd (HX.out.2.2.2.1.below HE3.out.1.ps.bel) HX.out.2.2.2.2.2.2.1 HX.out.2.2.2.2.2.1 (by have a0 := HX.out.2.2.2.2.2.2.2.2.2.2.2.1; omega)
  have b1 : decide ((8 : Int) < (L1 : Int)) = false := decide_eq_false (by have a0 := HX.out.2.2.2.2.2.2.2.2.2.2.1; omega)
  go_wp2_with fail
  go_at_call 62
  refine ht.mono ?_
  rintro e w4 ⟨vd, rfl, o4, r4, c4⟩
  clear ht f3
  obtain ⟨da, dp, ed⟩ := (row_of_owns o4).form
  rw [sub_len xs (5 + 1) L1 (by have a0 := HX.out.2.2.2.2.2.2.2.1; have a1 := HX.out.2.2.2.2.2.2.2.2.2.2.2.1; omega)] at ed
  subst ed
  have HT4 := HE3.out.1.next r4 c4
  have s2 : w4.cell? ⟨w2.heap.size, 2, none⟩ = some (.slice none 0 0) := (hdB_cells HT4.hd).2.2.1
  have s2f : w4.frozen? ⟨w2.heap.size, 2, none⟩ = false := (hdB_free HT4.hd).2.2.1
  have HF4 : Hid _ := And.intro (HT4.set2 (.slice da L1 dp)) (And.intro o4 c4.size)
  clear HT4 r4 c4 o4
  have hc := fixedS_ok (w.heap.size + 1 + 1) b off n cap (6 + L1) 1 xs _ (show srB _ _ _ ((6 + L1 : Nat) : Int) _ from HF4.out.1.ps.rd) (HX.out.2.2.2.1.below HF4.out.1.ps.bel) HX.out.2.2.2.2.1 HX.out.2.2.2.2.2.2.1 HX.out.2.2.2.2.2.1 (by have a0 := HX.out.2.2.2.2.2.2.2.2.2.2.2.2.1; omega) (by decide) (by decide)
  rw [HX.out.2.2.2.2.2.2.2.2.2.2.2.2.2.1] at hc
  go_wp2_with fail
  go_at_call 61
  refine hc.mono ?_
  rintro e w5 ⟨rfl, r5, c5⟩
  clear hc s2 s2f b1
  have HE5 : Hid _ := And.intro (HF4.out.1.next r5 c5) c5
  have f5 := HE5.out.1.ps.rd.c2
  clear r5 c5
  have ht := takeS_ok (w.heap.size + 1 + 1) b off n cap (6 + L1 + 1) L2 xs w5 HE5.out.1.ps.rd (HX.out.2.2.2.1.below HE5.out.1.ps.bel) HX.out.2.2.2.2.2.2.1 HX.out.2.2.2.2.2.1 (by have a0 := HX.out.2.2.2.2.2.2.2.2.2.2.2.2.2.2.2.1; omega)
  have b2 : decide ((8 : Int) < (L2 : Int)) = false := decide_eq_false (by have a0 := HX.out.2.2.2.2.2.2.2.2.2.2.2.2.2.2.1; omega)
  go_wp2_with fail
  go_at_call 62
  refine ht.mono ?_
  rintro e w6 ⟨vs, rfl, o6, r6, c6⟩
  clear ht f5
  obtain ⟨sa, sp, es⟩ := (row_of_owns o6).form
  rw [sub_len xs (6 + L1 + 1) L2 (by have a0 := HX.out.2.2.2.2.2.2.2.1; have a1 := HX.out.2.2.2.2.2.2.2.2.2.2.2.2.2.2.2.1; omega)] at es
  subst es
  have HT6 := HE5.out.1.next r6 c6
  have s3 : w6.cell? ⟨w2.heap.size, 3, none⟩ = some (.slice none 0 0) := (hdB_cells HT6.hd).2.2.2.1
  have s3f : w6.frozen? ⟨w2.heap.size, 3, none⟩ = false := (hdB_free HT6.hd).2.2.2.1
  have hbl : w2.heap.size < w3.heap.size := (Array.getElem?_eq_some_iff.1 HE3.out.1.hd).1
  have hgl := HE3.out.1.ps.rd.lt
  have hs45 : w4.heap.size ≤ w5.heap.size := by have h := HE5.out.2.size; rw [sizeS] at h; exact h
  have hs34 : w3.heap.size ≤ w4.heap.size := HF4.out.2.2
  have cZ : Chg (SG (w.heap.size + 1 + 1) w2.heap.size) w4 (w6.setCell ⟨w2.heap.size, 3, none⟩ (.slice sa L2 sp)) := ((((Chg.refl (SG (w.heap.size + 1 + 1) w2.heap.size) w4).setP 2 (.slice da L1 dp)).trans HE5.out.2.toG).trans c6.toG).setP 3 (.slice sa L2 sp)
  have od := cZ.ownsG HF4.out.2.1 hgl hbl
  have os : (w6.setCell ⟨w2.heap.size, 3, none⟩ (.slice sa L2 sp)).ownsRow w5.heap.size 5 1 (.slice sa L2 sp) L2 ((sub xs (6 + L1 + 1) L2).map (Value.int .u8)) := owns_set o6 (by omega)
  have HO : Hid _ := And.intro od (And.intro os (And.intro (apart_of HF4.out.2.1 o6 hs45) (And.intro hgl (And.intro hbl (And.intro (Nat.le_trans hs34 hs45) (by have := HE3.out.2; omega : w.heap.size < w3.heap.size))))))
  have HF6 : Hid _ := And.intro (HT6.set3 (.slice sa L2 sp)) True.intro
  have f6 := HF6.out.1.ps.rd.c2
  have v6 := (hdB_cells HF6.out.1.hd).2.1
  clear HT6 r6 c6 o6 cZ od os hgl hbl hs45 hs34
  have z0 : (V == 0) = false := by rw [HVE.out.1]; have h := HX.out.2.2.2.2.2.2.2.2.2.2.2.2.2.2.2.2.1; simpa using h
  have z1 : decide (f < 192) = false := by rw [HFE.out.1]; exact decide_eq_false (by have a0 := HX.out.2.2.2.2.2.2.2.2.2.2.2.2.2.2.2.2.2.1; omega)
  have zw : IntKind.i64.wrap (f - 192) = f - 192 := by rw [IntKind.wrap_i64, HFE.out.1]; have h1 := HX.out.2.2.2.2.2.2.2.2.2.2.2.2.2.2.2.2.2.1; have h2 := HX.out.2.2.2.2.2.2.2.2.2.2.2.2.2.2.2.2.2.2.1; omega
  have zq : (f - 192).tdiv 16 = 0 := by rw [HFE.out.1, Int.tdiv_eq_ediv_of_nonneg (by have h1 := HX.out.2.2.2.2.2.2.2.2.2.2.2.2.2.2.2.2.2.1; omega)]; have h1 := HX.out.2.2.2.2.2.2.2.2.2.2.2.2.2.2.2.2.2.1; have h2 := HX.out.2.2.2.2.2.2.2.2.2.2.2.2.2.2.2.2.2.2.1; omega
  have m1 := (hdB_cells HF6.out.1.hd).1
  have mf1 := (hdB_free HF6.out.1.hd).1
  have HM1 : Hid _ := And.intro (HF6.out.1.set0 (.int .i64 2)) ((Chg.refl (SG (w.heap.size + 1 + 1) w2.heap.size) (w6.setCell ⟨w2.heap.size, 3, none⟩ (.slice sa L2 sp))).setP 0 (.int .i64 2))
  have fm1 := HM1.out.1.ps.rd.c2
  have vm1 := (hdB_cells HM1.out.1.hd).2.1
  have m2 := (hdB_cells HM1.out.1.hd).1
  have mf2 := (hdB_free HM1.out.1.hd).1
  have HM2 : Hid _ := And.intro (HM1.out.1.set0 (.int .i64 1)) (HM1.out.2.setP 0 (.int .i64 1))
  have fm2 := HM2.out.1.ps.rd.c2
  have vm2 := (hdB_cells HM2.out.1.hd).2.1
  have hvr7 := variableS_ok (w.heap.size + 1 + 1) b off n cap (6 + L1 + 1 + L2) xs _ (show srB _ _ _ (((6 + L1 + 1 + L2) : Nat) : Int) _ from HM2.out.1.ps.rd) (HX.out.2.2.2.1.below HM2.out.1.ps.bel) HX.out.2.2.2.2.1 HX.out.2.2.2.2.2.1 HX.out.2.2.2.2.2.2.2.2.2.2.2.2.2.2.2.2.2.2.2.1
  rw [HX.out.2.2.2.2.2.2.2.2.2.2.2.2.2.2.2.2.2.2.2.2.1, HX.out.2.2.2.2.2.2.2.2.2.2.2.2.2.2.2.2.2.2.2.2.2.1] at hvr7
  go_wp2_with fail
  go_at_call 66
  refine hvr7.mono ?_
  rintro e w7 ⟨rfl, r7, c7⟩
  clear hvr7
  have HR7 : Hid _ := And.intro (HM2.out.1.next r7 c7) (HM2.out.2.trans c7.toG)
  have HC7 : Hid _ := And.intro c7 True.intro
  clear r7 c7
  have fr7 := HR7.out.1.ps.rd.c2
  have b3 : decide ((64 : Int) < (U : Int)) = false := decide_eq_false (by have a0 := HX.out.2.2.2.2.2.2.2.2.2.2.2.2.2.2.2.2.2.2.2.2.2.2.2.1; omega)
  have htk8 := takeS_ok (w.heap.size + 1 + 1) b off n cap M U xs _ (show srB _ _ _ ((M : Nat) : Int) _ from HR7.out.1.ps.rd) (HX.out.2.2.2.1.below HR7.out.1.ps.bel) HX.out.2.2.2.2.2.2.1 HX.out.2.2.2.2.2.1 (by have a0 := HX.out.2.2.2.2.2.2.2.2.2.2.2.2.2.2.2.2.2.2.2.2.2.2.2.2.1; omega)
  go_wp2_with fail
  go_at_call 62
  refine htk8.mono ?_
  rintro e w8 ⟨vt8, rfl, o8, r8, c8⟩
  clear htk8
  obtain ⟨ta, tp, et⟩ := (row_of_owns o8).form
  rw [sub_len xs M U (by have a0 := HX.out.2.2.2.2.2.2.2.1; have a1 := HX.out.2.2.2.2.2.2.2.2.2.2.2.2.2.2.2.2.2.2.2.2.2.2.2.2.1; omega)] at et
  subst et
  have HR8 : Hid _ := And.intro (HR7.out.1.next r8 c8) (And.intro (HR7.out.2.trans c8.toG) (And.intro o8 c8.size))
  have HC8 : Hid _ := And.intro c8 True.intro
  clear r8 c8 o8
  have fr8 := HR8.out.1.ps.rd.c2
  have mt := (hdB_cells HR8.out.1.hd).2.2.2.2.1
  have mtf := (hdB_free HR8.out.1.hd).2.2.2.2.1
  have HT : Hid _ := And.intro (HR8.out.1.set4 (.slice ta U tp)) (HR8.out.2.1.setP 4 (.slice ta U tp))
  have ft := HT.out.1.ps.rd.c2
  have hvr9 := variableS_ok (w.heap.size + 1 + 1) b off n cap (M + U) xs _ (show srB _ _ _ (((M + U) : Nat) : Int) _ from HT.out.1.ps.rd) (HX.out.2.2.2.1.below HT.out.1.ps.bel) HX.out.2.2.2.2.1 HX.out.2.2.2.2.2.1 HX.out.2.2.2.2.2.2.2.2.2.2.2.2.2.2.2.2.2.2.2.2.2.2.2.2.2.1
  rw [HX.out.2.2.2.2.2.2.2.2.2.2.2.2.2.2.2.2.2.2.2.2.2.2.2.2.2.2.1, HX.out.2.2.2.2.2.2.2.2.2.2.2.2.2.2.2.2.2.2.2.2.2.2.2.2.2.2.2.1] at hvr9
  go_wp2_with fail
  go_at_call 66
  refine hvr9.mono ?_
  rintro e w9 ⟨rfl, r9, c9⟩
  clear hvr9
  have HR9 : Hid _ := And.intro (HT.out.1.next r9 c9) (HT.out.2.trans c9.toG)
  have HC9 : Hid _ := And.intro c9 True.intro
  clear r9 c9
  have fr9 := HR9.out.1.ps.rd.c2
  have b5 : decide ((U2 : Int) < 12) = false := decide_eq_false (by have a0 := HX.out.2.2.2.2.2.2.2.2.2.2.2.2.2.2.2.2.2.2.2.2.2.2.2.2.2.2.2.2.2.1; omega)
  have b6 : decide ((1508 : Int) < (U2 : Int)) = false := decide_eq_false (by have a0 := HX.out.2.2.2.2.2.2.2.2.2.2.2.2.2.2.2.2.2.2.2.2.2.2.2.2.2.2.2.2.2.2.1; omega)
  have htk10 := takeS_no (w.heap.size + 1 + 1) (some ⟨b, off, none⟩) n cap ((M2 : Nat) : Int) U2 false _ HR9.out.1.ps.rd ⟨by omega, by have a0 := HX.out.2.2.2.2.2.2.2.2.2.2.2.2.2.2.2.2.2.2.2.2.2.2.2.2.2.2.2.2.1; omega⟩ (by have a0 := HX.out.2.2.2.2.2.1; omega) (Or.inr (by have a0 := HX.out.2.2.2.2.2.2.2.2.2.2.2.2.2.2.2.2.2.2.2.2.2.2.2.2.2.2.2.2.2.2.2; omega))
  go_wp2_with fail
  go_at_call 62
  refine htk10.mono ?_
  rintro e w10 ⟨q10, rfl, hq10, o10, r10, c10⟩
  clear htk10
  have HR10 : Hid _ := And.intro (HR9.out.1.next r10 c10) (HR9.out.2.trans c10.toG)
  clear r10 c10 o10 hq10
  have fr10 := HR10.out.1.ps.rd.c2
  obtain ⟨zc0, zc1, zc2, zc3, zc4, zc5, zc6, zc7⟩ := hdB_cells HR10.out.1.ps.r0
  obtain ⟨zf0, zf1, zf2, zf3, zf4, zf5, zf6, zf7⟩ := hdB_free HR10.out.1.ps.r0
  obtain ⟨zn0, zn1, zn2, zn3, zn4, zn5, zn6, zn7⟩ := hdB_cells HR10.out.1.ps.r1
  go_wp2_with fail
  refine bodyPost_ret (v := .tuple #[.agg #[.int .i64 0, .int .i64 0, .slice none 0 0, .slice none 0 0, .slice none 0 0, .int .i64 0, .int .i64 0, .int .i64 0], .int .i64 0, .int .i64 2]) ?_ rfl ?_
  · exact results_row_tmp2 (t := 24) rfl _ _ w.heap.size _ (fr := (0, 0)) _ _ _ rfl rfl rfl HR10.out.1.ps.zend.2 Tryz.underlying24 rfl infoHd
  · exact ⟨HR10.out.1.ps.zend.1, Or.inl ⟨2, HX.out.1.trans HX.out.2.1, rfl⟩⟩
set_option maxRecDepth 20000 in
set_option maxHeartbeats 4000000 in
theorem peekS_l22 (b off n cap m : Nat) (xs : List Int) (w : World) (hl : Lies w b off n cap xs) (hB : Bytes xs) (hn : n ≤ 65536) (h1 : 1 ≤ n) (hm : m ≤ 8) (hF : ¬ vals (sub xs 0 1) < 128) (h6 : ¬ n < 6) (L1 : Nat) (hL1 : vals (sub xs 5 1) = (L1 : Int)) (h81 : ¬ 8 < L1) (hs1 : ¬ n < 6 + L1) (h7 : ¬ n < 7 + L1) (L2 : Nat) (hL2 : vals (sub xs (6 + L1) 1) = (L2 : Int)) (h82 : ¬ 8 < L2) (hs2 : ¬ n < 7 + L1 + L2) (hv0 : ¬ vals (sub xs 1 4) = 0) (hk1 : 192 ≤ vals (sub xs 0 1)) (hk2 : vals (sub xs 0 1) < 208) (hv : varOK xs (6 + L1 + 1 + L2)) (U M : Nat) (hU : varV xs (6 + L1 + 1 + L2) = (U : Int)) (hM : varN xs (6 + L1 + 1 + L2) = M) (hMn : M ≤ n) (h64 : ¬ 64 < U) (hst : ¬ n < M + U) (hv2 : varOK xs (M + U)) (U2 M2 : Nat) (hU2 : varV xs (M + U) = (U2 : Int)) (hM2 : varN xs (M + U) = M2) (hM2n : M2 ≤ n) (hb : ¬ U2 < 12) (hb2 : ¬ 1508 < U2) (hs3 : ¬ n < M2 + U2) :
    Calls Tryz.prog 38 #[.slice (some ⟨b, off, none⟩) n cap, .int .i64 m] w fun e w' => PkPost xs m w e w' := by
  have hlen := hl.len
  have P0 := ps_new w (.slice (some ⟨b, off, none⟩) n cap)
  have hbg : b ≠ w.heap.size + 1 + 1 := by have := hl.lt; omega
  have hf := fixedS_ok (w.heap.size + 1 + 1) b off n cap 0 1 xs _ P0.rd (hl.below P0.bel) hB hbg hn (by omega) (by decide) (by decide)
  have eP := pk_long xs m (by omega) (by omega) hm hF
  have e : pkLong xs (vals (sub xs 0 1)) = .ok ⟨1, vals (sub xs 1 4), sub xs (5 + 1) L1, sub xs (6 + L1 + 1) L2, sub xs M U, [], M2, (M2 + U2)⟩ := by rw [pkLong_4 (by omega) (cid_ok xs 5 L1 (by omega) hL1 h81 (by omega)) (show pkCid xs (5 + 1 + L1) = .ok _ by rw [show 5 + 1 + L1 = 6 + L1 from rfl]; exact cid_ok xs (6 + L1) L2 (by omega) hL2 h82 (by omega))]; unfold pkTail; have hq : lform (vals (sub xs 0 1)) = 1 := (by unfold lform; rw [if_neg (by omega), if_pos hk2]); rw [if_neg hv0, hq, if_neg (by decide), if_pos rfl]; unfold pkIni; rw [if_pos hv, hU, hM, if_neg (by omega), Int.toNat_natCast, if_neg (by omega), beh_ok xs _ U2 M2 hv2 hU2 hM2 (by omega) (by omega)]
  have d1 : decide (vals (sub xs 0 1) < 64) = false := decide_eq_false (by omega)
  have d1b : decide (vals (sub xs 0 1) < 128) = false := decide_eq_false hF
  have HX : Hid _ := And.intro eP (And.intro e (And.intro P0 (And.intro hl (And.intro hB (And.intro hn (And.intro hbg (And.intro hlen (And.intro h6 (And.intro hL1 (And.intro h81 (And.intro hs1 (And.intro h7 (And.intro hL2 (And.intro h82 (And.intro hs2 (And.intro hv0 (And.intro hk1 (And.intro hk2 (And.intro hv (And.intro hU (And.intro hM (And.intro hMn (And.intro h64 (And.intro hst (And.intro hv2 (And.intro hU2 (And.intro hM2 (And.intro hM2n (And.intro hb (And.intro hb2 hs3))))))))))))))))))))))))))))))
  clear eP e P0 hl hB hbg hlen hF hn h1 h6 hL1 h81 hs1 h7 hL2 h82 hs2 hv0 hk1 hk2 hv hU hM hMn h64 hst hv2 hU2 hM2 hM2n hb hb2 hs3
  obtain ⟨f, hfe⟩ : ∃ f, f = vals (sub xs 0 1) := ⟨_, rfl⟩
  rw [← hfe] at hf d1 d1b
  have HFE : Hid _ := And.intro hfe True.intro
  clear hfe
  go_enter Tryz.func38, Tryz.ntmps38
  go_wp2_with fail
  go_at_call 61
  refine hf.mono ?_
  rintro e w1 ⟨rfl, r1, c1⟩
  clear hf
  have HA : Hid _ := And.intro (HX.out.2.2.1.next r1 c1) True.intro
  have f1 := HA.out.1.rd.c2
  clear r1 c1
  have hv := fixedS_ok (w.heap.size + 1 + 1) b off n cap (0 + 1) 4 xs w1 HA.out.1.rd (HX.out.2.2.2.1.below HA.out.1.bel) HX.out.2.2.2.2.1 HX.out.2.2.2.2.2.2.1 HX.out.2.2.2.2.2.1 (by have a0 := HX.out.2.2.2.2.2.2.2.2.1; omega) (by decide) (by decide)
  obtain ⟨V, hVe⟩ : ∃ V, V = vals (sub xs (0 + 1) 4) := ⟨_, rfl⟩
  rw [← hVe] at hv
  have HVE : Hid _ := And.intro hVe True.intro
  clear hVe
  go_wp2_with fail
  go_at_call 61
  refine hv.mono ?_
  rintro e w2 ⟨rfl, r2, c2⟩
  clear hv f1
  have HC : Hid _ := And.intro (ph_new (HA.out.1.next r2 c2) V) True.intro
  clear r2 c2
  have hc := fixedS_ok (w.heap.size + 1 + 1) b off n cap 5 1 xs _ (show srB _ _ _ ((5 : Nat) : Int) _ from HC.out.1.ps.rd) (HX.out.2.2.2.1.below HC.out.1.ps.bel) HX.out.2.2.2.2.1 HX.out.2.2.2.2.2.2.1 HX.out.2.2.2.2.2.1 (by have a0 := HX.out.2.2.2.2.2.2.2.2.1; omega) (by decide) (by decide)
  rw [HX.out.2.2.2.2.2.2.2.2.2.1] at hc
  go_wp2_with fail
  go_at_call 61
  refine hc.mono ?_
  rintro e w3 ⟨rfl, r3, c3⟩
  clear hc
  have HE3 : Hid _ := And.intro (HC.out.1.next r3 c3) (Nat.le_trans HC.out.1.ps.bel.size c3.size)
  have f3 := HE3.out.1.ps.rd.c2
  clear r3 c3
  have ht := takeS_ok (w.heap.size + 1 + 1) b off n cap (5 + 1) L1 xs w3 HE3.out.1.ps.rd (HX.out.2.2.2.1.below HE3.out.1.ps.bel) HX.out.2.2.2.2.2.2.1 HX.out.2.2.2.2.2.1 (by have a0 := HX.out.2.2.2.2.2.2.2.2.2.2.2.1; omega)
  have b1 : decide ((8 : Int) < (L1 : Int)) = false := decide_eq_false (by have a0 := HX.out.2.2.2.2.2.2.2.2.2.2.1; omega)
  go_wp2_with fail
  go_at_call 62
  refine ht.mono ?_
  rintro e w4 ⟨vd, rfl, o4, r4, c4⟩
  clear ht f3
  obtain ⟨da, dp, ed⟩ := (row_of_owns o4).form
  rw [sub_len xs (5 + 1) L1 (by have a0 := HX.out.2.2.2.2.2.2.2.1; have a1 := HX.out.2.2.2.2.2.2.2.2.2.2.2.1; omega)] at ed
  subst ed
  have HT4 := HE3.out.1.next r4 c4
  have s2 : w4.cell? ⟨w2.heap.size, 2, none⟩ = some (.slice none 0 0) := (hdB_cells HT4.hd).2.2.1
  have s2f : w4.frozen? ⟨w2.heap.size, 2, none⟩ = false := (hdB_free HT4.hd).2.2.1
  have HF4 : Hid _ := And.intro (HT4.set2 (.slice da L1 dp)) (And.intro o4 c4.size)
  clear HT4 r4 c4 o4
  have hc := fixedS_ok (w.heap.size + 1 + 1) b off n cap (6 + L1) 1 xs _ (show srB _ _ _ ((6 + L1 : Nat) : Int) _ from HF4.out.1.ps.rd) (HX.out.2.2.2.1.below HF4.out.1.ps.bel) HX.out.2.2.2.2.1 HX.out.2.2.2.2.2.2.1 HX.out.2.2.2.2.2.1 (by have a0 := HX.out.2.2.2.2.2.2.2.2.2.2.2.2.1; omega) (by decide) (by decide)
  rw [HX.out.2.2.2.2.2.2.2.2.2.2.2.2.2.1] at hc
  go_wp2_with fail
  go_at_call 61
  refine hc.mono ?_
  rintro e w5 ⟨rfl, r5, c5⟩
  clear hc s2 s2f b1
  have HE5 : Hid _ := And.intro (HF4.out.1.next r5 c5) c5
  have f5 := HE5.out.1.ps.rd.c2
  clear r5 c5
  have ht := takeS_ok (w.heap.size + 1 + 1) b off n cap (6 + L1 + 1) L2 xs w5 HE5.out.1.ps.rd (HX.out.2.2.2.1.below HE5.out.1.ps.bel) HX.out.2.2.2.2.2.2.1 HX.out.2.2.2.2.2.1 (by have a0 := HX.out.2.2.2.2.2.2.2.2.2.2.2.2.2.2.2.1; omega)
  have b2 : decide ((8 : Int) < (L2 : Int)) = false := decide_eq_false (by have a0 := HX.out.2.2.2.2.2.2.2.2.2.2.2.2.2.2.1; omega)
  go_wp2_with fail
  go_at_call 62
  refine ht.mono ?_
  rintro e w6 ⟨vs, rfl, o6, r6, c6⟩
  clear ht f5
  obtain ⟨sa, sp, es⟩ := (row_of_owns o6).form
  rw [sub_len xs (6 + L1 + 1) L2 (by have a0 := HX.out.2.2.2.2.2.2.2.1; have a1 := HX.out.2.2.2.2.2.2.2.2.2.2.2.2.2.2.2.1; omega)] at es
  subst es
  have HT6 := HE5.out.1.next r6 c6
  have s3 : w6.cell? ⟨w2.heap.size, 3, none⟩ = some (.slice none 0 0) := (hdB_cells HT6.hd).2.2.2.1
  have s3f : w6.frozen? ⟨w2.heap.size, 3, none⟩ = false := (hdB_free HT6.hd).2.2.2.1
  have hbl : w2.heap.size < w3.heap.size := (Array.getElem?_eq_some_iff.1 HE3.out.1.hd).1
  have hgl := HE3.out.1.ps.rd.lt
  have hs45 : w4.heap.size ≤ w5.heap.size := by have h := HE5.out.2.size; rw [sizeS] at h; exact h
  have hs34 : w3.heap.size ≤ w4.heap.size := HF4.out.2.2
  have cZ : Chg (SG (w.heap.size + 1 + 1) w2.heap.size) w4 (w6.setCell ⟨w2.heap.size, 3, none⟩ (.slice sa L2 sp)) := ((((Chg.refl (SG (w.heap.size + 1 + 1) w2.heap.size) w4).setP 2 (.slice da L1 dp)).trans HE5.out.2.toG).trans c6.toG).setP 3 (.slice sa L2 sp)
  have od := cZ.ownsG HF4.out.2.1 hgl hbl
  have os : (w6.setCell ⟨w2.heap.size, 3, none⟩ (.slice sa L2 sp)).ownsRow w5.heap.size 5 1 (.slice sa L2 sp) L2 ((sub xs (6 + L1 + 1) L2).map (Value.int .u8)) := owns_set o6 (by omega)
  have HO : Hid _ := And.intro od (And.intro os (And.intro (apart_of HF4.out.2.1 o6 hs45) (And.intro hgl (And.intro hbl (And.intro (Nat.le_trans hs34 hs45) (by have := HE3.out.2; omega : w.heap.size < w3.heap.size))))))
  have HF6 : Hid _ := And.intro (HT6.set3 (.slice sa L2 sp)) True.intro
  have f6 := HF6.out.1.ps.rd.c2
  have v6 := (hdB_cells HF6.out.1.hd).2.1
  clear HT6 r6 c6 o6 cZ od os hgl hbl hs45 hs34
  have z0 : (V == 0) = false := by rw [HVE.out.1]; have h := HX.out.2.2.2.2.2.2.2.2.2.2.2.2.2.2.2.2.1; simpa using h
  have z1 : decide (f < 192) = false := by rw [HFE.out.1]; exact decide_eq_false (by have a0 := HX.out.2.2.2.2.2.2.2.2.2.2.2.2.2.2.2.2.2.1; omega)
  have zw : IntKind.i64.wrap (f - 192) = f - 192 := by rw [IntKind.wrap_i64, HFE.out.1]; have h1 := HX.out.2.2.2.2.2.2.2.2.2.2.2.2.2.2.2.2.2.1; have h2 := HX.out.2.2.2.2.2.2.2.2.2.2.2.2.2.2.2.2.2.2.1; omega
  have zq : (f - 192).tdiv 16 = 0 := by rw [HFE.out.1, Int.tdiv_eq_ediv_of_nonneg (by have h1 := HX.out.2.2.2.2.2.2.2.2.2.2.2.2.2.2.2.2.2.1; omega)]; have h1 := HX.out.2.2.2.2.2.2.2.2.2.2.2.2.2.2.2.2.2.1; have h2 := HX.out.2.2.2.2.2.2.2.2.2.2.2.2.2.2.2.2.2.2.1; omega
  have m1 := (hdB_cells HF6.out.1.hd).1
  have mf1 := (hdB_free HF6.out.1.hd).1
  have HM1 : Hid _ := And.intro (HF6.out.1.set0 (.int .i64 2)) ((Chg.refl (SG (w.heap.size + 1 + 1) w2.heap.size) (w6.setCell ⟨w2.heap.size, 3, none⟩ (.slice sa L2 sp))).setP 0 (.int .i64 2))
  have fm1 := HM1.out.1.ps.rd.c2
  have vm1 := (hdB_cells HM1.out.1.hd).2.1
  have m2 := (hdB_cells HM1.out.1.hd).1
  have mf2 := (hdB_free HM1.out.1.hd).1
  have HM2 : Hid _ := And.intro (HM1.out.1.set0 (.int .i64 1)) (HM1.out.2.setP 0 (.int .i64 1))
  have fm2 := HM2.out.1.ps.rd.c2
  have vm2 := (hdB_cells HM2.out.1.hd).2.1
  have hvr7 := variableS_ok (w.heap.size + 1 + 1) b off n cap (6 + L1 + 1 + L2) xs _ (show srB _ _ _ (((6 + L1 + 1 + L2) : Nat) : Int) _ from HM2.out.1.ps.rd) (HX.out.2.2.2.1.below HM2.out.1.ps.bel) HX.out.2.2.2.2.1 HX.out.2.2.2.2.2.1 HX.out.2.2.2.2.2.2.2.2.2.2.2.2.2.2.2.2.2.2.2.1
  rw [HX.out.2.2.2.2.2.2.2.2.2.2.2.2.2.2.2.2.2.2.2.2.1, HX.out.2.2.2.2.2.2.2.2.2.2.2.2.2.2.2.2.2.2.2.2.2.1] at hvr7
  go_wp2_with fail
  go_at_call 66
  refine hvr7.mono ?_
  rintro e w7 ⟨rfl, r7, c7⟩
  clear hvr7
  have HR7 : Hid _ := And.intro (HM2.out.1.next r7 c7) (HM2.out.2.trans c7.toG)
  have HC7 : Hid _ := And.intro c7 True.intro
  clear r7 c7
  have fr7 := HR7.out.1.ps.rd.c2
  have b3 : decide ((64 : Int) < (U : Int)) = false := decide_eq_false (by have a0 := HX.out.2.2.2.2.2.2.2.2.2.2.2.2.2.2.2.2.2.2.2.2.2.2.2.1; omega)
  have htk8 := takeS_ok (w.heap.size + 1 + 1) b off n cap M U xs _ (show srB _ _ _ ((M : Nat) : Int) _ from HR7.out.1.ps.rd) (HX.out.2.2.2.1.below HR7.out.1.ps.bel) HX.out.2.2.2.2.2.2.1 HX.out.2.2.2.2.2.1 (by have a0 := HX.out.2.2.2.2.2.2.2.2.2.2.2.2.2.2.2.2.2.2.2.2.2.2.2.2.1; omega)
  go_wp2_with fail
  go_at_call 62
  refine htk8.mono ?_
  rintro e w8 ⟨vt8, rfl, o8, r8, c8⟩
  clear htk8
  obtain ⟨ta, tp, et⟩ := (row_of_owns o8).form
  rw [sub_len xs M U (by have a0 := HX.out.2.2.2.2.2.2.2.1; have a1 := HX.out.2.2.2.2.2.2.2.2.2.2.2.2.2.2.2.2.2.2.2.2.2.2.2.2.1; omega)] at et
  subst et
  have HR8 : Hid _ := And.intro (HR7.out.1.next r8 c8) (And.intro (HR7.out.2.trans c8.toG) (And.intro o8 c8.size))
  have HC8 : Hid _ := And.intro c8 True.intro
  clear r8 c8 o8
  have fr8 := HR8.out.1.ps.rd.c2
  have mt := (hdB_cells HR8.out.1.hd).2.2.2.2.1
  have mtf := (hdB_free HR8.out.1.hd).2.2.2.2.1
  have HT : Hid _ := And.intro (HR8.out.1.set4 (.slice ta U tp)) (HR8.out.2.1.setP 4 (.slice ta U tp))
  have ft := HT.out.1.ps.rd.c2
  have hvr9 := variableS_ok (w.heap.size + 1 + 1) b off n cap (M + U) xs _ (show srB _ _ _ (((M + U) : Nat) : Int) _ from HT.out.1.ps.rd) (HX.out.2.2.2.1.below HT.out.1.ps.bel) HX.out.2.2.2.2.1 HX.out.2.2.2.2.2.1 HX.out.2.2.2.2.2.2.2.2.2.2.2.2.2.2.2.2.2.2.2.2.2.2.2.2.2.1
  rw [HX.out.2.2.2.2.2.2.2.2.2.2.2.2.2.2.2.2.2.2.2.2.2.2.2.2.2.2.1, HX.out.2.2.2.2.2.2.2.2.2.2.2.2.2.2.2.2.2.2.2.2.2.2.2.2.2.2.2.1] at hvr9
  go_wp2_with fail
  go_at_call 66
  refine hvr9.mono ?_
  rintro e w9 ⟨rfl, r9, c9⟩
  clear hvr9
  have HR9 : Hid _ := And.intro (HT.out.1.next r9 c9) (HT.out.2.trans c9.toG)
  have HC9 : Hid _ := And.intro c9 True.intro
  clear r9 c9
  have fr9 := HR9.out.1.ps.rd.c2
  have b5 : decide ((U2 : Int) < 12) = false := decide_eq_false (by have a0 := HX.out.2.2.2.2.2.2.2.2.2.2.2.2.2.2.2.2.2.2.2.2.2.2.2.2.2.2.2.2.2.1; omega)
  have b6 : decide ((1508 : Int) < (U2 : Int)) = false := decide_eq_false (by have a0 := HX.out.2.2.2.2.2.2.2.2.2.2.2.2.2.2.2.2.2.2.2.2.2.2.2.2.2.2.2.2.2.2.1; omega)
  have htk10 := takeS_ok (w.heap.size + 1 + 1) b off n cap M2 U2 xs _ (show srB _ _ _ ((M2 : Nat) : Int) _ from HR9.out.1.ps.rd) (HX.out.2.2.2.1.below HR9.out.1.ps.bel) HX.out.2.2.2.2.2.2.1 HX.out.2.2.2.2.2.1 (by have a0 := HX.out.2.2.2.2.2.2.2.2.2.2.2.2.2.2.2.2.2.2.2.2.2.2.2.2.2.2.2.2.2.2.2; omega)
  go_wp2_with fail
  go_at_call 62
  refine htk10.mono ?_
  rintro e w10 ⟨vt10, rfl, o10, r10, c10⟩
  clear htk10
  have HR10 : Hid _ := And.intro (HR9.out.1.next r10 c10) (And.intro (HR9.out.2.trans c10.toG) (And.intro o10 c10.size))
  have HC10 : Hid _ := And.intro c10 True.intro
  clear r10 c10 o10
  have fr10 := HR10.out.1.ps.rd.c2
  have rp := HR10.out.1.ps.rd.c1
  obtain ⟨ra, era⟩ : ∃ ra : Nat, ra = M2 + U2 := ⟨_, rfl⟩
  rw [← era] at rp
  have HRA : Hid _ := And.intro era True.intro
  clear era
  have hb7 : w2.heap.size < w7.heap.size := (Array.getElem?_eq_some_iff.1 HR7.out.1.hd).1
  have hg7 := HR7.out.1.ps.rd.lt
  have cT : Chg (SG (w.heap.size + 1 + 1) w2.heap.size) w8 w10 := (((Chg.refl (SG (w.heap.size + 1 + 1) w2.heap.size) w8).setP 4 (.slice ta U tp)).trans HC9.out.1.toG).trans HC10.out.1.toG
  have ot1 := cT.ownsG HR8.out.2.2.1 hg7 hb7
  have hN7 : w.heap.size < w7.heap.size := by omega
  have aD := apart_of (HR7.out.2.ownsG HO.out.1 HO.out.2.2.2.1 HO.out.2.2.2.2.1) HR8.out.2.2.1 (Nat.le_refl _)
  have aS := apart_of (HR7.out.2.ownsG HO.out.2.1 (Nat.lt_of_lt_of_le HO.out.2.2.2.1 HO.out.2.2.2.2.2.1) (Nat.lt_of_lt_of_le HO.out.2.2.2.2.1 HO.out.2.2.2.2.2.1)) HR8.out.2.2.1 (Nat.le_refl _)
  obtain ⟨zc0, zc1, zc2, zc3, zc4, zc5, zc6, zc7⟩ := hdB_cells HR10.out.1.ps.r0
  obtain ⟨zf0, zf1, zf2, zf3, zf4, zf5, zf6, zf7⟩ := hdB_free HR10.out.1.ps.r0
  obtain ⟨g0, g1, g2, g3, g4, g5, g6, g7⟩ := hdB_cells HR10.out.1.hd
  obtain ⟨n0, n1, n2, n3, n4, n5⟩ := HR10.out.1.ne
  have hE8 : (st8 w10 w.heap.size (.int .i64 1) (.int .i64 V) (.slice da L1 dp) (.slice sa L2 sp) (.slice ta U tp) (.int .i64 0) (.int .i64 0) (.int .i64 0)).heap[w.heap.size]? = _ := st8_heap (a0 := .int .i64 1) (a1 := .int .i64 V) (a2 := .slice da L1 dp) (a3 := .slice sa L2 sp) (a4 := .slice ta U tp) (a5 := .int .i64 0) (a6 := .int .i64 0) (a7 := .int .i64 0) HR10.out.1.ps.r0
  have hB8 : Below w.heap.size w (st8 w10 w.heap.size (.int .i64 1) (.int .i64 V) (.slice da L1 dp) (.slice sa L2 sp) (.slice ta U tp) (.int .i64 0) (.int .i64 0) (.int .i64 0)) := st8_below (a0 := .int .i64 1) (a1 := .int .i64 V) (a2 := .slice da L1 dp) (a3 := .slice sa L2 sp) (a4 := .slice ta U tp) (a5 := .int .i64 0) (a6 := .int .i64 0) (a7 := .int .i64 0) HR10.out.1.ps.bel (Nat.le_refl w.heap.size)
  have hw3 : w.heap.size < w3.heap.size := HO.out.2.2.2.2.2.2
  have hw5 : w3.heap.size ≤ w5.heap.size := HO.out.2.2.2.2.2.1
  have od1 := HR10.out.2.1.ownsG HO.out.1 HO.out.2.2.2.1 HO.out.2.2.2.2.1
  have os1 := HR10.out.2.1.ownsG HO.out.2.1 (Nat.lt_of_lt_of_le HO.out.2.2.2.1 hw5) (Nat.lt_of_lt_of_le HO.out.2.2.2.2.1 hw5)
  have od2 : (st8 w10 w.heap.size (.int .i64 1) (.int .i64 V) (.slice da L1 dp) (.slice sa L2 sp) (.slice ta U tp) (.int .i64 0) (.int .i64 0) (.int .i64 0)).ownsRow w3.heap.size 5 1 (.slice da L1 dp) L1 _ := st8_owns (a0 := .int .i64 1) (a1 := .int .i64 V) (a2 := .slice da L1 dp) (a3 := .slice sa L2 sp) (a4 := .slice ta U tp) (a5 := .int .i64 0) (a6 := .int .i64 0) (a7 := .int .i64 0) od1 hw3
  have os2 : (st8 w10 w.heap.size (.int .i64 1) (.int .i64 V) (.slice da L1 dp) (.slice sa L2 sp) (.slice ta U tp) (.int .i64 0) (.int .i64 0) (.int .i64 0)).ownsRow w5.heap.size 5 1 (.slice sa L2 sp) L2 _ := st8_owns (a0 := .int .i64 1) (a1 := .int .i64 V) (a2 := .slice da L1 dp) (a3 := .slice sa L2 sp) (a4 := .slice ta U tp) (a5 := .int .i64 0) (a6 := .int .i64 0) (a7 := .int .i64 0) os1 (Nat.lt_of_lt_of_le hw3 hw5)
  have ot2 : (st8 w10 w.heap.size (.int .i64 1) (.int .i64 V) (.slice da L1 dp) (.slice sa L2 sp) (.slice ta U tp) (.int .i64 0) (.int .i64 0) (.int .i64 0)).ownsRow w7.heap.size 5 1 (.slice ta U tp) U _ := st8_owns (a0 := .int .i64 1) (a1 := .int .i64 V) (a2 := .slice da L1 dp) (a3 := .slice sa L2 sp) (a4 := .slice ta U tp) (a5 := .int .i64 0) (a6 := .int .i64 0) (a7 := .int .i64 0) ot1 (by omega)
  have hd2 : (st8 w10 w.heap.size (.int .i64 1) (.int .i64 V) (.slice da L1 dp) (.slice sa L2 sp) (.slice ta U tp) (.int .i64 0) (.int .i64 0) (.int .i64 0)).drew.ownsRow w.heap.size 5 1 (.slice da L1 dp) (sub xs (5 + 1) L1).length ((sub xs (5 + 1) L1).map (Value.int .u8)) := by rw [sub_len xs (5 + 1) L1 (by have a0 := HX.out.2.2.2.2.2.2.2.1; have a1 := HX.out.2.2.2.2.2.2.2.2.2.2.2.1; omega)]; exact owns_drew (owns_mono od2 (Nat.le_of_lt hw3))
  have hs2 : (st8 w10 w.heap.size (.int .i64 1) (.int .i64 V) (.slice da L1 dp) (.slice sa L2 sp) (.slice ta U tp) (.int .i64 0) (.int .i64 0) (.int .i64 0)).drew.ownsRow w.heap.size 5 1 (.slice sa L2 sp) (sub xs (6 + L1 + 1) L2).length ((sub xs (6 + L1 + 1) L2).map (Value.int .u8)) := by rw [sub_len xs (6 + L1 + 1) L2 (by have a0 := HX.out.2.2.2.2.2.2.2.1; have a1 := HX.out.2.2.2.2.2.2.2.2.2.2.2.2.2.2.2.1; omega)]; exact owns_drew (owns_mono os2 (by omega))
  have ht2 : (st8 w10 w.heap.size (.int .i64 1) (.int .i64 V) (.slice da L1 dp) (.slice sa L2 sp) (.slice ta U tp) (.int .i64 0) (.int .i64 0) (.int .i64 0)).drew.ownsRow w.heap.size 5 1 (.slice ta U tp) (sub xs M U).length ((sub xs M U).map (Value.int .u8)) := by rw [sub_len xs M U (by have a0 := HX.out.2.2.2.2.2.2.2.1; have a1 := HX.out.2.2.2.2.2.2.2.2.2.2.2.2.2.2.2.2.2.2.2.2.2.2.2.2.1; omega)]; exact owns_drew (owns_mono ot2 (by omega))
  have HQ : Hid _ := And.intro ((drew_heap _ _).trans hE8) (And.intro (below_drew' hB8) (And.intro hd2 (And.intro hs2 (And.intro ht2 (And.intro aD aS)))))
  clear hE8 hB8 hw3 hw5 od1 os1 od2 os2 hd2 hs2 ot2 ht2
  go_wp2_with fail
  go_region
  go_wp2_with fail
  refine bodyPost_ret (v := .tuple #[.agg #[.int .i64 1, .int .i64 V, .slice da L1 dp, .slice sa L2 sp, .slice ta U tp, .int .i64 0, .int .i64 0, .int .i64 0], .int .i64 ra, .int .i64 0]) ?_ rfl ?_
  · exact results_row_tmp2 (t := 24) rfl _ _ w.heap.size _ (fr := (0, 0)) _ _ _ rfl rfl rfl HQ.out.1 Tryz.underlying24 rfl infoHd
  · refine ⟨HQ.out.2.1, Or.inr ⟨_, .slice da L1 dp, .slice sa L2 sp, .slice ta U tp, HX.out.1.trans HX.out.2.1, by rw [HVE.out.1, HRA.out.1], ⟨HQ.out.2.2.1, HQ.out.2.2.2.1, HQ.out.2.2.2.2.1, HO.out.2.2.1, HQ.out.2.2.2.2.2.1, HQ.out.2.2.2.2.2.2⟩⟩⟩
set_option maxRecDepth 20000 in
set_option maxHeartbeats 4000000 in
theorem peekS_l24 (b off n cap m : Nat) (xs : List Int) (w : World) (hl : Lies w b off n cap xs) (hB : Bytes xs) (hn : n ≤ 65536) (h1 : 1 ≤ n) (hm : m ≤ 8) (hF : ¬ vals (sub xs 0 1) < 128) (h6 : ¬ n < 6) (L1 : Nat) (hL1 : vals (sub xs 5 1) = (L1 : Int)) (h81 : ¬ 8 < L1) (hs1 : ¬ n < 6 + L1) (h7 : ¬ n < 7 + L1) (L2 : Nat) (hL2 : vals (sub xs (6 + L1) 1) = (L2 : Int)) (h82 : ¬ 8 < L2) (hs2 : ¬ n < 7 + L1 + L2) (hv0 : ¬ vals (sub xs 1 4) = 0) (hk1 : 224 ≤ vals (sub xs 0 1)) (hk2 : vals (sub xs 0 1) < 240) (hv2 : ¬ varOK xs (6 + L1 + 1 + L2)) :
    Calls Tryz.prog 38 #[.slice (some ⟨b, off, none⟩) n cap, .int .i64 m] w fun e w' => PkPost xs m w e w' := by
  have hlen := hl.len
  have P0 := ps_new w (.slice (some ⟨b, off, none⟩) n cap)
  have hbg : b ≠ w.heap.size + 1 + 1 := by have := hl.lt; omega
  have hf := fixedS_ok (w.heap.size + 1 + 1) b off n cap 0 1 xs _ P0.rd (hl.below P0.bel) hB hbg hn (by omega) (by decide) (by decide)
  have eP := pk_long xs m (by omega) (by omega) hm hF
  have e : pkLong xs (vals (sub xs 0 1)) = .error 2 := by rw [pkLong_4 (by omega) (cid_ok xs 5 L1 (by omega) hL1 h81 (by omega)) (show pkCid xs (5 + 1 + L1) = .ok _ by rw [show 5 + 1 + L1 = 6 + L1 from rfl]; exact cid_ok xs (6 + L1) L2 (by omega) hL2 h82 (by omega))]; unfold pkTail; have hq : lform (vals (sub xs 0 1)) = 2 := (by unfold lform; rw [if_neg (by omega), if_neg (by omega), if_neg (by omega), if_pos hk2]); rw [if_neg hv0, hq, if_neg (by decide), if_neg (by decide), if_pos rfl, beh_e1 xs _ hv2]
  have d1 : decide (vals (sub xs 0 1) < 64) = false := decide_eq_false (by omega)
  have d1b : decide (vals (sub xs 0 1) < 128) = false := decide_eq_false hF
  have HX : Hid _ := And.intro eP (And.intro e (And.intro P0 (And.intro hl (And.intro hB (And.intro hn (And.intro hbg (And.intro hlen (And.intro h6 (And.intro hL1 (And.intro h81 (And.intro hs1 (And.intro h7 (And.intro hL2 (And.intro h82 (And.intro hs2 (And.intro hv0 (And.intro hk1 (And.intro hk2 hv2))))))))))))))))))
  clear eP e P0 hl hB hbg hlen hF hn h1 h6 hL1 h81 hs1 h7 hL2 h82 hs2 hv0 hk1 hk2 hv2
  obtain ⟨f, hfe⟩ : ∃ f, f = vals (sub xs 0 1) := ⟨_, rfl⟩
  rw [← hfe] at hf d1 d1b
  have HFE : Hid _ := And.intro hfe True.intro
  clear hfe
  go_enter Tryz.func38, Tryz.ntmps38
  go_wp2_with fail
  go_at_call 61
  refine hf.mono ?_
  rintro e w1 ⟨rfl, r1, c1⟩
  clear hf
  have HA : Hid _ := And.intro (HX.out.2.2.1.next r1 c1) True.intro
  have f1 := HA.out.1.rd.c2
  clear r1 c1
  have hv := fixedS_ok (w.heap.size + 1 + 1) b off n cap (0 + 1) 4 xs w1 HA.out.1.rd (HX.out.2.2.2.1.below HA.out.1.bel) HX.out.2.2.2.2.1 HX.out.2.2.2.2.2.2.1 HX.out.2.2.2.2.2.1 (by have a0 := HX.out.2.2.2.2.2.2.2.2.1; omega) (by decide) (by decide)
  obtain ⟨V, hVe⟩ : ∃ V, V = vals (sub xs (0 + 1) 4) := ⟨_, rfl⟩
  rw [← hVe] at hv
  have HVE : Hid _ := And.intro hVe True.intro
  clear hVe
  go_wp2_with fail
  go_at_call 61
  refine hv.mono ?_
  rintro e w2 ⟨rfl, r2, c2⟩
  clear hv f1
  have HC : Hid _ := And.intro (ph_new (HA.out.1.next r2 c2) V) True.intro
  clear r2 c2
  have hc := fixedS_ok (w.heap.size + 1 + 1) b off n cap 5 1 xs _ (show srB _ _ _ ((5 : Nat) : Int) _ from HC.out.1.ps.rd) (HX.out.2.2.2.1.below HC.out.1.ps.bel) HX.out.2.2.2.2.1 HX.out.2.2.2.2.2.2.1 HX.out.2.2.2.2.2.1 (by have a0 := HX.out.2.2.2.2.2.2.2.2.1; omega) (by decide) (by decide)
  rw [HX.out.2.2.2.2.2.2.2.2.2.1] at hc
  go_wp2_with fail
  go_at_call 61
  refine hc.mono ?_
  rintro e w3 ⟨rfl, r3, c3⟩
  clear hc
  have HE3 : Hid _ := And.intro (HC.out.1.next r3 c3) (Nat.le_trans HC.out.1.ps.bel.size c3.size)
  have f3 := HE3.out.1.ps.rd.c2
  clear r3 c3
  have ht := takeS_ok (w.heap.size + 1 + 1) b off n cap (5 + 1) L1 xs w3 HE3.out.1.ps.rd (HX.out.2.2.2.1.below HE3.out.1.ps.bel) HX.out.2.2.2.2.2.2.1 HX.out.2.2.2.2.2.1 (by have a0 := HX.out.2.2.2.2.2.2.2.2.2.2.2.1; omega)
  have b1 : decide ((8 : Int) < (L1 : Int)) = false := decide_eq_false (by have a0 := HX.out.2.2.2.2.2.2.2.2.2.2.1; omega)
  go_wp2_with fail
  go_at_call 62
  refine ht.mono ?_
  rintro e w4 ⟨vd, rfl, o4, r4, c4⟩
  clear ht f3
  obtain ⟨da, dp, ed⟩ := (row_of_owns o4).form
  rw [sub_len xs (5 + 1) L1 (by have a0 := HX.out.2.2.2.2.2.2.2.1; have a1 := HX.out.2.2.2.2.2.2.2.2.2.2.2.1; omega)] at ed
  subst ed
  have HT4 := HE3.out.1.next r4 c4
  have s2 : w4.cell? ⟨w2.heap.size, 2, none⟩ = some (.slice none 0 0) := (hdB_cells HT4.hd).2.2.1
  have s2f : w4.frozen? ⟨w2.heap.size, 2, none⟩ = false := (hdB_free HT4.hd).2.2.1
  have HF4 : Hid _ := And.intro (HT4.set2 (.slice da L1 dp)) (And.intro o4 c4.size)
  clear HT4 r4 c4 o4
  have hc := fixedS_ok (w.heap.size + 1 + 1) b off n cap (6 + L1) 1 xs _ (show srB _ _ _ ((6 + L1 : Nat) : Int) _ from HF4.out.1.ps.rd) (HX.out.2.2.2.1.below HF4.out.1.ps.bel) HX.out.2.2.2.2.1 HX.out.2.2.2.2.2.2.1 HX.out.2.2.2.2.2.1 (by have a0 := HX.out.2.2.2.2.2.2.2.2.2.2.2.2.1; omega) (by decide) (by decide)
  rw [HX.out.2.2.2.2.2.2.2.2.2.2.2.2.2.1] at hc
  go_wp2_with fail
  go_at_call 61
  refine hc.mono ?_
  rintro e w5 ⟨rfl, r5, c5⟩
  clear hc s2 s2f b1
  have HE5 : Hid _ := And.intro (HF4.out.1.next r5 c5) c5
  have f5 := HE5.out.1.ps.rd.c2
  clear r5 c5
  have ht := takeS_ok (w.heap.size + 1 + 1) b off n cap (6 + L1 + 1) L2 xs w5 HE5.out.1.ps.rd (HX.out.2.2.2.1.below HE5.out.1.ps.bel) HX.out.2.2.2.2.2.2.1 HX.out.2.2.2.2.2.1 (by have a0 := HX.out.2.2.2.2.2.2.2.2.2.2.2.2.2.2.2.1; omega)
  have b2 : decide ((8 : Int) < (L2 : Int)) = false := decide_eq_false (by have a0 := HX.out.2.2.2.2.2.2.2.2.2.2.2.2.2.2.1; omega)
  go_wp2_with fail
  go_at_call 62
  refine ht.mono ?_
  rintro e w6 ⟨vs, rfl, o6, r6, c6⟩
  clear ht f5
  obtain ⟨sa, sp, es⟩ := (row_of_owns o6).form
  rw [sub_len xs (6 + L1 + 1) L2 (by have a0 := HX.out.2.2.2.2.2.2.2.1; have a1 := HX.out.2.2.2.2.2.2.2.2.2.2.2.2.2.2.2.1; omega)] at es
  subst es
  have HT6 := HE5.out.1.next r6 c6
  have s3 : w6.cell? ⟨w2.heap.size, 3, none⟩ = some (.slice none 0 0) := (hdB_cells HT6.hd).2.2.2.1
  have s3f : w6.frozen? ⟨w2.heap.size, 3, none⟩ = false := (hdB_free HT6.hd).2.2.2.1
  have hbl : w2.heap.size < w3.heap.size := (Array.getElem?_eq_some_iff.1 HE3.out.1.hd).1
  have hgl := HE3.out.1.ps.rd.lt
  have hs45 : w4.heap.size ≤ w5.heap.size := by have h := HE5.out.2.size; rw [sizeS] at h; exact h
  have hs34 : w3.heap.size ≤ w4.heap.size := HF4.out.2.2
  have cZ : Chg (SG (w.heap.size + 1 + 1) w2.heap.size) w4 (w6.setCell ⟨w2.heap.size, 3, none⟩ (.slice sa L2 sp)) := ((((Chg.refl (SG (w.heap.size + 1 + 1) w2.heap.size) w4).setP 2 (.slice da L1 dp)).trans HE5.out.2.toG).trans c6.toG).setP 3 (.slice sa L2 sp)
  have od := cZ.ownsG HF4.out.2.1 hgl hbl
  have os : (w6.setCell ⟨w2.heap.size, 3, none⟩ (.slice sa L2 sp)).ownsRow w5.heap.size 5 1 (.slice sa L2 sp) L2 ((sub xs (6 + L1 + 1) L2).map (Value.int .u8)) := owns_set o6 (by omega)
  have HO : Hid _ := And.intro od (And.intro os (And.intro (apart_of HF4.out.2.1 o6 hs45) (And.intro hgl (And.intro hbl (And.intro (Nat.le_trans hs34 hs45) (by have := HE3.out.2; omega : w.heap.size < w3.heap.size))))))
  have HF6 : Hid _ := And.intro (HT6.set3 (.slice sa L2 sp)) True.intro
  have f6 := HF6.out.1.ps.rd.c2
  have v6 := (hdB_cells HF6.out.1.hd).2.1
  clear HT6 r6 c6 o6 cZ od os hgl hbl hs45 hs34
  have z0 : (V == 0) = false := by rw [HVE.out.1]; have h := HX.out.2.2.2.2.2.2.2.2.2.2.2.2.2.2.2.2.1; simpa using h
  have z1 : decide (f < 192) = false := by rw [HFE.out.1]; exact decide_eq_false (by have a0 := HX.out.2.2.2.2.2.2.2.2.2.2.2.2.2.2.2.2.2.1; omega)
  have zw : IntKind.i64.wrap (f - 192) = f - 192 := by rw [IntKind.wrap_i64, HFE.out.1]; have h1 := HX.out.2.2.2.2.2.2.2.2.2.2.2.2.2.2.2.2.2.1; have h2 := HX.out.2.2.2.2.2.2.2.2.2.2.2.2.2.2.2.2.2.2.1; omega
  have zq : (f - 192).tdiv 16 = 2 := by rw [HFE.out.1, Int.tdiv_eq_ediv_of_nonneg (by have h1 := HX.out.2.2.2.2.2.2.2.2.2.2.2.2.2.2.2.2.2.1; omega)]; have h1 := HX.out.2.2.2.2.2.2.2.2.2.2.2.2.2.2.2.2.2.1; have h2 := HX.out.2.2.2.2.2.2.2.2.2.2.2.2.2.2.2.2.2.2.1; omega
  have m1 := (hdB_cells HF6.out.1.hd).1
  have mf1 := (hdB_free HF6.out.1.hd).1
  have HM1 : Hid _ := And.intro (HF6.out.1.set0 (.int .i64 2)) ((Chg.refl (SG (w.heap.size + 1 + 1) w2.heap.size) (w6.setCell ⟨w2.heap.size, 3, none⟩ (.slice sa L2 sp))).setP 0 (.int .i64 2))
  have fm1 := HM1.out.1.ps.rd.c2
  have vm1 := (hdB_cells HM1.out.1.hd).2.1
  have hvr9 := variableS_no (w.heap.size + 1 + 1) b off n cap (6 + L1 + 1 + L2) xs _ (show srB _ _ _ (((6 + L1 + 1 + L2) : Nat) : Int) _ from HM1.out.1.ps.rd) (HX.out.2.2.2.1.below HM1.out.1.ps.bel) HX.out.2.2.2.2.1 HX.out.2.2.2.2.2.1 (by have a0 := HX.out.2.2.2.2.2.2.2.2.2.2.2.2.2.2.2.1; omega) HX.out.2.2.2.2.2.2.2.2.2.2.2.2.2.2.2.2.2.2.2
  go_wp2_with fail
  go_at_call 66
  refine hvr9.mono ?_
  rintro e w9 ⟨rfl, r9, c9⟩
  clear hvr9
  have HR9 : Hid _ := And.intro (HM1.out.1.next r9 c9) (HM1.out.2.trans c9.toG)
  clear r9 c9
  have fr9 := HR9.out.1.ps.rd.c2
  obtain ⟨zc0, zc1, zc2, zc3, zc4, zc5, zc6, zc7⟩ := hdB_cells HR9.out.1.ps.r0
  obtain ⟨zf0, zf1, zf2, zf3, zf4, zf5, zf6, zf7⟩ := hdB_free HR9.out.1.ps.r0
  obtain ⟨zn0, zn1, zn2, zn3, zn4, zn5, zn6, zn7⟩ := hdB_cells HR9.out.1.ps.r1
  have hfl := faultS_t (w.heap.size + 1 + 1) _ _ w9.drew HR9.out.1.ps.rd.drewX
  go_wp2_with fail
  go_region_with (go_at_call 63; refine hfl.mono ?_; rintro e wz ⟨rfl, hwz⟩; rw [hwz]; clear hwz wz)
  all_goals (go_wp2_with fail)
  all_goals (refine bodyPost_ret (v := .tuple #[.agg #[.int .i64 0, .int .i64 0, .slice none 0 0, .slice none 0 0, .slice none 0 0, .int .i64 0, .int .i64 0, .int .i64 0], .int .i64 0, .int .i64 2]) ?_ rfl ?_)
  all_goals first
    | exact results_row_tmp2 (t := 24) rfl _ _ w.heap.size _ (fr := (0, 0)) _ _ _ rfl rfl rfl HR9.out.1.ps.zendD.2 Tryz.underlying24 rfl infoHd
    | exact ⟨HR9.out.1.ps.zendD.1, Or.inl ⟨2, HX.out.1.trans HX.out.2.1, rfl⟩⟩
set_option maxRecDepth 20000 in
set_option maxHeartbeats 4000000 in
theorem peekS_l25 (b off n cap m : Nat) (xs : List Int) (w : World) (hl : Lies w b off n cap xs) (hB : Bytes xs) (hn : n ≤ 65536) (h1 : 1 ≤ n) (hm : m ≤ 8) (hF : ¬ vals (sub xs 0 1) < 128) (h6 : ¬ n < 6) (L1 : Nat) (hL1 : vals (sub xs 5 1) = (L1 : Int)) (h81 : ¬ 8 < L1) (hs1 : ¬ n < 6 + L1) (h7 : ¬ n < 7 + L1) (L2 : Nat) (hL2 : vals (sub xs (6 + L1) 1) = (L2 : Int)) (h82 : ¬ 8 < L2) (hs2 : ¬ n < 7 + L1 + L2) (hv0 : ¬ vals (sub xs 1 4) = 0) (hk1 : 224 ≤ vals (sub xs 0 1)) (hk2 : vals (sub xs 0 1) < 240) (hv2 : varOK xs (6 + L1 + 1 + L2)) (U2 M2 : Nat) (hU2 : varV xs (6 + L1 + 1 + L2) = (U2 : Int)) (hM2 : varN xs (6 + L1 + 1 + L2) = M2) (hb : U2 < 12) :
    Calls Tryz.prog 38 #[.slice (some ⟨b, off, none⟩) n cap, .int .i64 m] w fun e w' => PkPost xs m w e w' := by
  have hlen := hl.len
  have P0 := ps_new w (.slice (some ⟨b, off, none⟩) n cap)
  have hbg : b ≠ w.heap.size + 1 + 1 := by have := hl.lt; omega
  have hf := fixedS_ok (w.heap.size + 1 + 1) b off n cap 0 1 xs _ P0.rd (hl.below P0.bel) hB hbg hn (by omega) (by decide) (by decide)
  have eP := pk_long xs m (by omega) (by omega) hm hF
  have e : pkLong xs (vals (sub xs 0 1)) = .error 3 := by rw [pkLong_4 (by omega) (cid_ok xs 5 L1 (by omega) hL1 h81 (by omega)) (show pkCid xs (5 + 1 + L1) = .ok _ by rw [show 5 + 1 + L1 = 6 + L1 from rfl]; exact cid_ok xs (6 + L1) L2 (by omega) hL2 h82 (by omega))]; unfold pkTail; have hq : lform (vals (sub xs 0 1)) = 2 := (by unfold lform; rw [if_neg (by omega), if_neg (by omega), if_neg (by omega), if_pos hk2]); rw [if_neg hv0, hq, if_neg (by decide), if_neg (by decide), if_pos rfl, beh_e2 xs _ U2 hv2 hU2 (Or.inl hb)]
  have d1 : decide (vals (sub xs 0 1) < 64) = false := decide_eq_false (by omega)
  have d1b : decide (vals (sub xs 0 1) < 128) = false := decide_eq_false hF
  have HX : Hid _ := And.intro eP (And.intro e (And.intro P0 (And.intro hl (And.intro hB (And.intro hn (And.intro hbg (And.intro hlen (And.intro h6 (And.intro hL1 (And.intro h81 (And.intro hs1 (And.intro h7 (And.intro hL2 (And.intro h82 (And.intro hs2 (And.intro hv0 (And.intro hk1 (And.intro hk2 (And.intro hv2 (And.intro hU2 (And.intro hM2 hb)))))))))))))))))))))
  clear eP e P0 hl hB hbg hlen hF hn h1 h6 hL1 h81 hs1 h7 hL2 h82 hs2 hv0 hk1 hk2 hv2 hU2 hM2 hb
  obtain ⟨f, hfe⟩ : ∃ f, f = vals (sub xs 0 1) := ⟨_, rfl⟩
  rw [← hfe] at hf d1 d1b
  have HFE : Hid _ := And.intro hfe True.intro
  clear hfe
  go_enter Tryz.func38, Tryz.ntmps38
  go_wp2_with fail
  go_at_call 61
  refine hf.mono ?_
  rintro e w1 ⟨rfl, r1, c1⟩
  clear hf
  have HA : Hid _ := And.intro (HX.out.2.2.1.next r1 c1) True.intro
  have f1 := HA.out.1.rd.c2
  clear r1 c1
  have hv := fixedS_ok (w.heap.size + 1 + 1) b off n cap (0 + 1) 4 xs w1 HA.out.1.rd (HX.out.2.2.2.1.below HA.out.1.bel) HX.out.2.2.2.2.1 HX.out.2.2.2.2.2.2.1 HX.out.2.2.2.2.2.1 (by have a0 := HX.out.2.2.2.2.2.2.2.2.1; omega) (by decide) (by decide)
  obtain ⟨V, hVe⟩ : ∃ V, V = vals (sub xs (0 + 1) 4) := ⟨_, rfl⟩
  rw [← hVe] at hv
  have HVE : Hid _ := And.intro hVe True.intro
  clear hVe
  go_wp2_with fail
  go_at_call 61
  refine hv.mono ?_
  rintro e w2 ⟨rfl, r2, c2⟩
  clear hv f1
  have HC : Hid _ := And.intro (ph_new (HA.out.1.next r2 c2) V) True.intro
  clear r2 c2
  have hc := fixedS_ok (w.heap.size + 1 + 1) b off n cap 5 1 xs _ (show srB _ _ _ ((5 : Nat) : Int) _ from HC.out.1.ps.rd) (HX.out.2.2.2.1.below HC.out.1.ps.bel) HX.out.2.2.2.2.1 HX.out.2.2.2.2.2.2.1 HX.out.2.2.2.2.2.1 (by have a0 := HX.out.2.2.2.2.2.2.2.2.1; omega) (by decide) (by decide)
  rw [HX.out.2.2.2.2.2.2.2.2.2.1] at hc
  go_wp2_with fail
  go_at_call 61
  refine hc.mono ?_
  rintro e w3 ⟨rfl, r3, c3⟩
  clear hc
  have HE3 : Hid _ := And.intro (HC.out.1.next r3 c3) (Nat.le_trans HC.out.1.ps.bel.size c3.size)
  have f3 := HE3.out.1.ps.rd.c2
  clear r3 c3
  have ht := takeS_ok (w.heap.size + 1 + 1) b off n cap (5 + 1) L1 xs w3 HE3.out.1.ps.rd (HX.out.2.2.2.1.below HE3.out.1.ps.bel) HX.out.2.2.2.2.2.2.1 HX.out.2.2.2.2.2.1 (by have a0 := HX.out.2.2.2.2.2.2.2.2.2.2.2.1; omega)
  have b1 : decide ((8 : Int) < (L1 : Int)) = false := decide_eq_false (by have a0 := HX.out.2.2.2.2.2.2.2.2.2.2.1; omega)
  go_wp2_with fail
  go_at_call 62
  refine ht.mono ?_
  rintro e w4 ⟨vd, rfl, o4, r4, c4⟩
  clear ht f3
  obtain ⟨da, dp, ed⟩ := (row_of_owns o4).form
  rw [sub_len xs (5 + 1) L1 (by have a0 := HX.out.2.2.2.2.2.2.2.1; have a1 := HX.out.2.2.2.2.2.2.2.2.2.2.2.1; omega)] at ed
  subst ed
  have HT4 := HE3.out.1.next r4 c4
  have s2 : w4.cell? ⟨w2.heap.size, 2, none⟩ = some (.slice none 0 0) := (hdB_cells HT4.hd).2.2.1
  have s2f : w4.frozen? ⟨w2.heap.size, 2, none⟩ = false := (hdB_free HT4.hd).2.2.1
  have HF4 : Hid _ := And.intro (HT4.set2 (.slice da L1 dp)) (And.intro o4 c4.size)
  clear HT4 r4 c4 o4
  have hc := fixedS_ok (w.heap.size + 1 + 1) b off n cap (6 + L1) 1 xs _ (show srB _ _ _ ((6 + L1 : Nat) : Int) _ from HF4.out.1.ps.rd) (HX.out.2.2.2.1.below HF4.out.1.ps.bel) HX.out.2.2.2.2.1 HX.out.2.2.2.2.2.2.1 HX.out.2.2.2.2.2.1 (by have a0 := HX.out.2.2.2.2.2.2.2.2.2.2.2.2.1; omega) (by decide) (by decide)
  rw [HX.out.2.2.2.2.2.2.2.2.2.2.2.2.2.1] at hc
  go_wp2_with fail
  go_at_call 61
  refine hc.mono ?_
  rintro e w5 ⟨rfl, r5, c5⟩
  clear hc s2 s2f b1
  have HE5 : Hid _ := And.intro (HF4.out.1.next r5 c5) c5
  have f5 := HE5.out.1.ps.rd.c2
  clear r5 c5
  have ht := takeS_ok (w.heap.size + 1 + 1) b off n cap (6 + L1 + 1) L2 xs w5 HE5.out.1.ps.rd (HX.out.2.2.2.1.below HE5.out.1.ps.bel) HX.out.2.2.2.2.2.2.1 HX.out.2.2.2.2.2.1 (by have a0 := HX.out.2.2.2.2.2.2.2.2.2.2.2.2.2.2.2.1; omega)
  have b2 : decide ((8 : Int) < (L2 : Int)) = false := decide_eq_false (by have a0 := HX.out.2.2.2.2.2.2.2.2.2.2.2.2.2.2.1; omega)
  go_wp2_with fail
  go_at_call 62
  refine ht.mono ?_
  rintro e w6 ⟨vs, rfl, o6, r6, c6⟩
  clear ht f5
  obtain ⟨sa, sp, es⟩ := (row_of_owns o6).form
  rw [sub_len xs (6 + L1 + 1) L2 (by have a0 := HX.out.2.2.2.2.2.2.2.1; have a1 := HX.out.2.2.2.2.2.2.2.2.2.2.2.2.2.2.2.1; omega)] at es
  subst es
  have HT6 := HE5.out.1.next r6 c6
  have s3 : w6.cell? ⟨w2.heap.size, 3, none⟩ = some (.slice none 0 0) := (hdB_cells HT6.hd).2.2.2.1
  have s3f : w6.frozen? ⟨w2.heap.size, 3, none⟩ = false := (hdB_free HT6.hd).2.2.2.1
  have hbl : w2.heap.size < w3.heap.size := (Array.getElem?_eq_some_iff.1 HE3.out.1.hd).1
  have hgl := HE3.out.1.ps.rd.lt
  have hs45 : w4.heap.size ≤ w5.heap.size := by have h := HE5.out.2.size; rw [sizeS] at h; exact h
  have hs34 : w3.heap.size ≤ w4.heap.size := HF4.out.2.2
  have cZ : Chg (SG (w.heap.size + 1 + 1) w2.heap.size) w4 (w6.setCell ⟨w2.heap.size, 3, none⟩ (.slice sa L2 sp)) := ((((Chg.refl (SG (w.heap.size + 1 + 1) w2.heap.size) w4).setP 2 (.slice da L1 dp)).trans HE5.out.2.toG).trans c6.toG).setP 3 (.slice sa L2 sp)
  have od := cZ.ownsG HF4.out.2.1 hgl hbl
  have os : (w6.setCell ⟨w2.heap.size, 3, none⟩ (.slice sa L2 sp)).ownsRow w5.heap.size 5 1 (.slice sa L2 sp) L2 ((sub xs (6 + L1 + 1) L2).map (Value.int .u8)) := owns_set o6 (by omega)
  have HO : Hid _ := And.intro od (And.intro os (And.intro (apart_of HF4.out.2.1 o6 hs45) (And.intro hgl (And.intro hbl (And.intro (Nat.le_trans hs34 hs45) (by have := HE3.out.2; omega : w.heap.size < w3.heap.size))))))
  have HF6 : Hid _ := And.intro (HT6.set3 (.slice sa L2 sp)) True.intro
  have f6 := HF6.out.1.ps.rd.c2
  have v6 := (hdB_cells HF6.out.1.hd).2.1
  clear HT6 r6 c6 o6 cZ od os hgl hbl hs45 hs34
  have z0 : (V == 0) = false := by rw [HVE.out.1]; have h := HX.out.2.2.2.2.2.2.2.2.2.2.2.2.2.2.2.2.1; simpa using h
  have z1 : decide (f < 192) = false := by rw [HFE.out.1]; exact decide_eq_false (by have a0 := HX.out.2.2.2.2.2.2.2.2.2.2.2.2.2.2.2.2.2.1; omega)
  have zw : IntKind.i64.wrap (f - 192) = f - 192 := by rw [IntKind.wrap_i64, HFE.out.1]; have h1 := HX.out.2.2.2.2.2.2.2.2.2.2.2.2.2.2.2.2.2.1; have h2 := HX.out.2.2.2.2.2.2.2.2.2.2.2.2.2.2.2.2.2.2.1; omega
  have zq : (f - 192).tdiv 16 = 2 := by rw [HFE.out.1, Int.tdiv_eq_ediv_of_nonneg (by have h1 := HX.out.2.2.2.2.2.2.2.2.2.2.2.2.2.2.2.2.2.1; omega)]; have h1 := HX.out.2.2.2.2.2.2.2.2.2.2.2.2.2.2.2.2.2.1; have h2 := HX.out.2.2.2.2.2.2.2.2.2.2.2.2.2.2.2.2.2.2.1; omega
  have m1 := (hdB_cells HF6.out.1.hd).1
  have mf1 := (hdB_free HF6.out.1.hd).1
  have HM1 : Hid _ := And.intro (HF6.out.1.set0 (.int .i64 2)) ((Chg.refl (SG (w.heap.size + 1 + 1) w2.heap.size) (w6.setCell ⟨w2.heap.size, 3, none⟩ (.slice sa L2 sp))).setP 0 (.int .i64 2))
  have fm1 := HM1.out.1.ps.rd.c2
  have vm1 := (hdB_cells HM1.out.1.hd).2.1
  have hvr9 := variableS_ok (w.heap.size + 1 + 1) b off n cap (6 + L1 + 1 + L2) xs _ (show srB _ _ _ (((6 + L1 + 1 + L2) : Nat) : Int) _ from HM1.out.1.ps.rd) (HX.out.2.2.2.1.below HM1.out.1.ps.bel) HX.out.2.2.2.2.1 HX.out.2.2.2.2.2.1 HX.out.2.2.2.2.2.2.2.2.2.2.2.2.2.2.2.2.2.2.2.1
  rw [HX.out.2.2.2.2.2.2.2.2.2.2.2.2.2.2.2.2.2.2.2.2.1, HX.out.2.2.2.2.2.2.2.2.2.2.2.2.2.2.2.2.2.2.2.2.2.1] at hvr9
  go_wp2_with fail
  go_at_call 66
  refine hvr9.mono ?_
  rintro e w9 ⟨rfl, r9, c9⟩
  clear hvr9
  have HR9 : Hid _ := And.intro (HM1.out.1.next r9 c9) (HM1.out.2.trans c9.toG)
  have HC9 : Hid _ := And.intro c9 True.intro
  clear r9 c9
  have fr9 := HR9.out.1.ps.rd.c2
  have b5 : decide ((U2 : Int) < 12) = true := decide_eq_true (by have a0 := HX.out.2.2.2.2.2.2.2.2.2.2.2.2.2.2.2.2.2.2.2.2.2.2; omega)
  obtain ⟨zc0, zc1, zc2, zc3, zc4, zc5, zc6, zc7⟩ := hdB_cells HR9.out.1.ps.r0
  obtain ⟨zf0, zf1, zf2, zf3, zf4, zf5, zf6, zf7⟩ := hdB_free HR9.out.1.ps.r0
  obtain ⟨zn0, zn1, zn2, zn3, zn4, zn5, zn6, zn7⟩ := hdB_cells HR9.out.1.ps.r1
  have hfl := faultS_f (w.heap.size + 1 + 1) _ _ w9.drew HR9.out.1.ps.rd.drewX
  go_wp2_with fail
  go_region_with (go_at_call 63; refine hfl.mono ?_; rintro e wz ⟨rfl, hwz⟩; rw [hwz]; clear hwz wz)
  all_goals (go_wp2_with fail)
  all_goals (refine bodyPost_ret (v := .tuple #[.agg #[.int .i64 0, .int .i64 0, .slice none 0 0, .slice none 0 0, .slice none 0 0, .int .i64 0, .int .i64 0, .int .i64 0], .int .i64 0, .int .i64 3]) ?_ rfl ?_)
  all_goals first
    | exact results_row_tmp2 (t := 24) rfl _ _ w.heap.size _ (fr := (0, 0)) _ _ _ rfl rfl rfl HR9.out.1.ps.zendD.2 Tryz.underlying24 rfl infoHd
    | exact ⟨HR9.out.1.ps.zendD.1, Or.inl ⟨3, HX.out.1.trans HX.out.2.1, rfl⟩⟩
set_option maxRecDepth 20000 in
set_option maxHeartbeats 4000000 in
theorem peekS_l26 (b off n cap m : Nat) (xs : List Int) (w : World) (hl : Lies w b off n cap xs) (hB : Bytes xs) (hn : n ≤ 65536) (h1 : 1 ≤ n) (hm : m ≤ 8) (hF : ¬ vals (sub xs 0 1) < 128) (h6 : ¬ n < 6) (L1 : Nat) (hL1 : vals (sub xs 5 1) = (L1 : Int)) (h81 : ¬ 8 < L1) (hs1 : ¬ n < 6 + L1) (h7 : ¬ n < 7 + L1) (L2 : Nat) (hL2 : vals (sub xs (6 + L1) 1) = (L2 : Int)) (h82 : ¬ 8 < L2) (hs2 : ¬ n < 7 + L1 + L2) (hv0 : ¬ vals (sub xs 1 4) = 0) (hk1 : 224 ≤ vals (sub xs 0 1)) (hk2 : vals (sub xs 0 1) < 240) (hv2 : varOK xs (6 + L1 + 1 + L2)) (U2 M2 : Nat) (hU2 : varV xs (6 + L1 + 1 + L2) = (U2 : Int)) (hM2 : varN xs (6 + L1 + 1 + L2) = M2) (hb : ¬ U2 < 12) (hb2 : 1508 < U2) :
    Calls Tryz.prog 38 #[.slice (some ⟨b, off, none⟩) n cap, .int .i64 m] w fun e w' => PkPost xs m w e w' := by
  have hlen := hl.len
  have P0 := ps_new w (.slice (some ⟨b, off, none⟩) n cap)
  have hbg : b ≠ w.heap.size + 1 + 1 := by have := hl.lt; omega
  have hf := fixedS_ok (w.heap.size + 1 + 1) b off n cap 0 1 xs _ P0.rd (hl.below P0.bel) hB hbg hn (by omega) (by decide) (by decide)
  have eP := pk_long xs m (by omega) (by omega) hm hF
  have e : pkLong xs (vals (sub xs 0 1)) = .error 3 := by rw [pkLong_4 (by omega) (cid_ok xs 5 L1 (by omega) hL1 h81 (by omega)) (show pkCid xs (5 + 1 + L1) = .ok _ by rw [show 5 + 1 + L1 = 6 + L1 from rfl]; exact cid_ok xs (6 + L1) L2 (by omega) hL2 h82 (by omega))]; unfold pkTail; have hq : lform (vals (sub xs 0 1)) = 2 := (by unfold lform; rw [if_neg (by omega), if_neg (by omega), if_neg (by omega), if_pos hk2]); rw [if_neg hv0, hq, if_neg (by decide), if_neg (by decide), if_pos rfl, beh_e2 xs _ U2 hv2 hU2 (Or.inr hb2)]
  have d1 : decide (vals (sub xs 0 1) < 64) = false := decide_eq_false (by omega)
  have d1b : decide (vals (sub xs 0 1) < 128) = false := decide_eq_false hF
  have HX : Hid _ := And.intro eP (And.intro e (And.intro P0 (And.intro hl (And.intro hB (And.intro hn (And.intro hbg (And.intro hlen (And.intro h6 (And.intro hL1 (And.intro h81 (And.intro hs1 (And.intro h7 (And.intro hL2 (And.intro h82 (And.intro hs2 (And.intro hv0 (And.intro hk1 (And.intro hk2 (And.intro hv2 (And.intro hU2 (And.intro hM2 (And.intro hb hb2))))))))))))))))))))))
  clear eP e P0 hl hB hbg hlen hF hn h1 h6 hL1 h81 hs1 h7 hL2 h82 hs2 hv0 hk1 hk2 hv2 hU2 hM2 hb hb2
  obtain ⟨f, hfe⟩ : ∃ f, f = vals (sub xs 0 1) := ⟨_, rfl⟩
  rw [← hfe] at hf d1 d1b
  have HFE : Hid _ := And.intro hfe True.intro
  clear hfe
  go_enter Tryz.func38, Tryz.ntmps38
  go_wp2_with fail
  go_at_call 61
  refine hf.mono ?_
  rintro e w1 ⟨rfl, r1, c1⟩
  clear hf
  have HA : Hid _ := And.intro (HX.out.2.2.1.next r1 c1) True.intro
  have f1 := HA.out.1.rd.c2
  clear r1 c1
  have hv := fixedS_ok (w.heap.size + 1 + 1) b off n cap (0 + 1) 4 xs w1 HA.out.1.rd (HX.out.2.2.2.1.below HA.out.1.bel) HX.out.2.2.2.2.1 HX.out.2.2.2.2.2.2.1 HX.out.2.2.2.2.2.1 (by have a0 := HX.out.2.2.2.2.2.2.2.2.1; omega) (by decide) (by decide)
  obtain ⟨V, hVe⟩ : ∃ V, V = vals (sub xs (0 + 1) 4) := ⟨_, rfl⟩
  rw [← hVe] at hv
  have HVE : Hid _ := And.intro hVe True.intro
  clear hVe
  go_wp2_with fail
  go_at_call 61
  refine hv.mono ?_
  rintro e w2 ⟨rfl, r2, c2⟩
  clear hv f1
  have HC : Hid _ := And.intro (ph_new (HA.out.1.next r2 c2) V) True.intro
  clear r2 c2
  have hc := fixedS_ok (w.heap.size + 1 + 1) b off n cap 5 1 xs _ (show srB _ _ _ ((5 : Nat) : Int) _ from HC.out.1.ps.rd) (HX.out.2.2.2.1.below HC.out.1.ps.bel) HX.out.2.2.2.2.1 HX.out.2.2.2.2.2.2.1 HX.out.2.2.2.2.2.1 (by have a0 := HX.out.2.2.2.2.2.2.2.2.1; omega) (by decide) (by decide)
  rw [HX.out.2.2.2.2.2.2.2.2.2.1] at hc
  go_wp2_with fail
  go_at_call 61
  refine hc.mono ?_
  rintro e w3 ⟨rfl, r3, c3⟩
  clear hc
  have HE3 : Hid _ := And.intro (HC.out.1.next r3 c3) (Nat.le_trans HC.out.1.ps.bel.size c3.size)
  have f3 := HE3.out.1.ps.rd.c2
  clear r3 c3
  have ht := takeS_ok (w.heap.size + 1 + 1) b off n cap (5 + 1) L1 xs w3 HE3.out.1.ps.rd (HX.out.2.2.2.1.below HE3.out.1.ps.bel) HX.out.2.2.2.2.2.2.1 HX.out.2.2.2.2.2.1 (by have a0 := HX.out.2.2.2.2.2.2.2.2.2.2.2.1; omega)
  have b1 : decide ((8 : Int) < (L1 : Int)) = false := decide_eq_false (by have a0 := HX.out.2.2.2.2.2.2.2.2.2.2.1; omega)
  go_wp2_with fail
  go_at_call 62
  refine ht.mono ?_
  rintro e w4 ⟨vd, rfl, o4, r4, c4⟩
  clear ht f3
  obtain ⟨da, dp, ed⟩ := (row_of_owns o4).form
  rw [sub_len xs (5 + 1) L1 (by have a0 := HX.out.2.2.2.2.2.2.2.1; have a1 := HX.out.2.2.2.2.2.2.2.2.2.2.2.1; omega)] at ed
  subst ed
  have HT4 := HE3.out.1.next r4 c4
  have s2 : w4.cell? ⟨w2.heap.size, 2, none⟩ = some (.slice none 0 0) := (hdB_cells HT4.hd).2.2.1
  have s2f : w4.frozen? ⟨w2.heap.size, 2, none⟩ = false := (hdB_free HT4.hd).2.2.1
  have HF4 : Hid _ := And.intro (HT4.set2 (.slice da L1 dp)) (And.intro o4 c4.size)
  clear HT4 r4 c4 o4
  have hc := fixedS_ok (w.heap.size + 1 + 1) b off n cap (6 + L1) 1 xs _ (show srB _ _ _ ((6 + L1 : Nat) : Int) _ from HF4.out.1.ps.rd) (HX.out.2.2.2.1.below HF4.out.1.ps.bel) HX.out.2.2.2.2.1 HX.out.2.2.2.2.2.2.1 HX.out.2.2.2.2.2.1 (by have a0 := HX.out.2.2.2.2.2.2.2.2.2.2.2.2.1; omega) (by decide) (by decide)
  rw [HX.out.2.2.2.2.2.2.2.2.2.2.2.2.2.1] at hc
  go_wp2_with fail
  go_at_call 61
  refine hc.mono ?_
  rintro e w5 ⟨rfl, r5, c5⟩
  clear hc s2 s2f b1
  have HE5 : Hid _ := And.intro (HF4.out.1.next r5 c5) c5
  have f5 := HE5.out.1.ps.rd.c2
  clear r5 c5
  have ht := takeS_ok (w.heap.size + 1 + 1) b off n cap (6 + L1 + 1) L2 xs w5 HE5.out.1.ps.rd (HX.out.2.2.2.1.below HE5.out.1.ps.bel) HX.out.2.2.2.2.2.2.1 HX.out.2.2.2.2.2.1 (by have a0 := HX.out.2.2.2.2.2.2.2.2.2.2.2.2.2.2.2.1; omega)
  have b2 : decide ((8 : Int) < (L2 : Int)) = false := decide_eq_false (by have a0 := HX.out.2.2.2.2.2.2.2.2.2.2.2.2.2.2.1; omega)
  go_wp2_with fail
  go_at_call 62
  refine ht.mono ?_
  rintro e w6 ⟨vs, rfl, o6, r6, c6⟩
  clear ht f5
  obtain ⟨sa, sp, es⟩ := (row_of_owns o6).form
  rw [sub_len xs (6 + L1 + 1) L2 (by have a0 := HX.out.2.2.2.2.2.2.2.1; have a1 := HX.out.2.2.2.2.2.2.2.2.2.2.2.2.2.2.2.1; omega)] at es
  subst es
  have HT6 := HE5.out.1.next r6 c6
  have s3 : w6.cell? ⟨w2.heap.size, 3, none⟩ = some (.slice none 0 0) := (hdB_cells HT6.hd).2.2.2.1
  have s3f : w6.frozen? ⟨w2.heap.size, 3, none⟩ = false := (hdB_free HT6.hd).2.2.2.1
  have hbl : w2.heap.size < w3.heap.size := (Array.getElem?_eq_some_iff.1 HE3.out.1.hd).1
  have hgl := HE3.out.1.ps.rd.lt
  have hs45 : w4.heap.size ≤ w5.heap.size := by have h := HE5.out.2.size; rw [sizeS] at h; exact h
  have hs34 : w3.heap.size ≤ w4.heap.size := HF4.out.2.2
  have cZ : Chg (SG (w.heap.size + 1 + 1) w2.heap.size) w4 (w6.setCell ⟨w2.heap.size, 3, none⟩ (.slice sa L2 sp)) := ((((Chg.refl (SG (w.heap.size + 1 + 1) w2.heap.size) w4).setP 2 (.slice da L1 dp)).trans HE5.out.2.toG).trans c6.toG).setP 3 (.slice sa L2 sp)
  have od := cZ.ownsG HF4.out.2.1 hgl hbl
  have os : (w6.setCell ⟨w2.heap.size, 3, none⟩ (.slice sa L2 sp)).ownsRow w5.heap.size 5 1 (.slice sa L2 sp) L2 ((sub xs (6 + L1 + 1) L2).map (Value.int .u8)) := owns_set o6 (by omega)
  have HO : Hid _ := And.intro od (And.intro os (And.intro (apart_of HF4.out.2.1 o6 hs45) (And.intro hgl (And.intro hbl (And.intro (Nat.le_trans hs34 hs45) (by have := HE3.out.2; omega : w.heap.size < w3.heap.size))))))
  have HF6 : Hid _ := And.intro (HT6.set3 (.slice sa L2 sp)) True.intro
  have f6 := HF6.out.1.ps.rd.c2
  have v6 := (hdB_cells HF6.out.1.hd).2.1
  clear HT6 r6 c6 o6 cZ od os hgl hbl hs45 hs34
  have z0 : (V == 0) = false := by rw [HVE.out.1]; have h := HX.out.2.2.2.2.2.2.2.2.2.2.2.2.2.2.2.2.1; simpa using h
  have z1 : decide (f < 192) = false := by rw [HFE.out.1]; exact decide_eq_false (by have a0 := HX.out.2.2.2.2.2.2.2.2.2.2.2.2.2.2.2.2.2.1; omega)
  have zw : IntKind.i64.wrap (f - 192) = f - 192 := by rw [IntKind.wrap_i64, HFE.out.1]; have h1 := HX.out.2.2.2.2.2.2.2.2.2.2.2.2.2.2.2.2.2.1; have h2 := HX.out.2.2.2.2.2.2.2.2.2.2.2.2.2.2.2.2.2.2.1; omega
  have zq : (f - 192).tdiv 16 = 2 := by rw [HFE.out.1, Int.tdiv_eq_ediv_of_nonneg (by have h1 := HX.out.2.2.2.2.2.2.2.2.2.2.2.2.2.2.2.2.2.1; omega)]; have h1 := HX.out.2.2.2.2.2.2.2.2.2.2.2.2.2.2.2.2.2.1; have h2 := HX.out.2.2.2.2.2.2.2.2.2.2.2.2.2.2.2.2.2.2.1; omega
  have m1 := (hdB_cells HF6.out.1.hd).1
  have mf1 := (hdB_free HF6.out.1.hd).1
  have HM1 : Hid _ := And.intro (HF6.out.1.set0 (.int .i64 2)) ((Chg.refl (SG (w.heap.size + 1 + 1) w2.heap.size) (w6.setCell ⟨w2.heap.size, 3, none⟩ (.slice sa L2 sp))).setP 0 (.int .i64 2))
  have fm1 := HM1.out.1.ps.rd.c2
  have vm1 := (hdB_cells HM1.out.1.hd).2.1
  have hvr9 := variableS_ok (w.heap.size + 1 + 1) b off n cap (6 + L1 + 1 + L2) xs _ (show srB _ _ _ (((6 + L1 + 1 + L2) : Nat) : Int) _ from HM1.out.1.ps.rd) (HX.out.2.2.2.1.below HM1.out.1.ps.bel) HX.out.2.2.2.2.1 HX.out.2.2.2.2.2.1 HX.out.2.2.2.2.2.2.2.2.2.2.2.2.2.2.2.2.2.2.2.1
  rw [HX.out.2.2.2.2.2.2.2.2.2.2.2.2.2.2.2.2.2.2.2.2.1, HX.out.2.2.2.2.2.2.2.2.2.2.2.2.2.2.2.2.2.2.2.2.2.1] at hvr9
  go_wp2_with fail
  go_at_call 66
  refine hvr9.mono ?_
  rintro e w9 ⟨rfl, r9, c9⟩
  clear hvr9
  have HR9 : Hid _ := And.intro (HM1.out.1.next r9 c9) (HM1.out.2.trans c9.toG)
  have HC9 : Hid _ := And.intro c9 True.intro
  clear r9 c9
  have fr9 := HR9.out.1.ps.rd.c2
  have b5 : decide ((U2 : Int) < 12) = false := decide_eq_false (by have a0 := HX.out.2.2.2.2.2.2.2.2.2.2.2.2.2.2.2.2.2.2.2.2.2.2.1; omega)
  have b6 : decide ((1508 : Int) < (U2 : Int)) = true := decide_eq_true (by have a0 := HX.out.2.2.2.2.2.2.2.2.2.2.2.2.2.2.2.2.2.2.2.2.2.2.2; omega)
  obtain ⟨zc0, zc1, zc2, zc3, zc4, zc5, zc6, zc7⟩ := hdB_cells HR9.out.1.ps.r0
  obtain ⟨zf0, zf1, zf2, zf3, zf4, zf5, zf6, zf7⟩ := hdB_free HR9.out.1.ps.r0
  obtain ⟨zn0, zn1, zn2, zn3, zn4, zn5, zn6, zn7⟩ := hdB_cells HR9.out.1.ps.r1
  have hfl := faultS_f (w.heap.size + 1 + 1) _ _ w9.drew HR9.out.1.ps.rd.drewX
  go_wp2_with fail
  go_region_with (go_at_call 63; refine hfl.mono ?_; rintro e wz ⟨rfl, hwz⟩; rw [hwz]; clear hwz wz)
  all_goals (go_wp2_with fail)
  all_goals (refine bodyPost_ret (v := .tuple #[.agg #[.int .i64 0, .int .i64 0, .slice none 0 0, .slice none 0 0, .slice none 0 0, .int .i64 0, .int .i64 0, .int .i64 0], .int .i64 0, .int .i64 3]) ?_ rfl ?_)
  all_goals first
    | exact results_row_tmp2 (t := 24) rfl _ _ w.heap.size _ (fr := (0, 0)) _ _ _ rfl rfl rfl HR9.out.1.ps.zendD.2 Tryz.underlying24 rfl infoHd
    | exact ⟨HR9.out.1.ps.zendD.1, Or.inl ⟨3, HX.out.1.trans HX.out.2.1, rfl⟩⟩
set_option maxRecDepth 20000 in
set_option maxHeartbeats 4000000 in
theorem peekS_l27 (b off n cap m : Nat) (xs : List Int) (w : World) (hl : Lies w b off n cap xs) (hB : Bytes xs) (hn : n ≤ 65536) (h1 : 1 ≤ n) (hm : m ≤ 8) (hF : ¬ vals (sub xs 0 1) < 128) (h6 : ¬ n < 6) (L1 : Nat) (hL1 : vals (sub xs 5 1) = (L1 : Int)) (h81 : ¬ 8 < L1) (hs1 : ¬ n < 6 + L1) (h7 : ¬ n < 7 + L1) (L2 : Nat) (hL2 : vals (sub xs (6 + L1) 1) = (L2 : Int)) (h82 : ¬ 8 < L2) (hs2 : ¬ n < 7 + L1 + L2) (hv0 : ¬ vals (sub xs 1 4) = 0) (hk1 : 224 ≤ vals (sub xs 0 1)) (hk2 : vals (sub xs 0 1) < 240) (hv2 : varOK xs (6 + L1 + 1 + L2)) (U2 M2 : Nat) (hU2 : varV xs (6 + L1 + 1 + L2) = (U2 : Int)) (hM2 : varN xs (6 + L1 + 1 + L2) = M2) (hM2n : M2 ≤ n) (hb : ¬ U2 < 12) (hb2 : ¬ 1508 < U2) (hs3 : n < M2 + U2) :
    Calls Tryz.prog 38 #[.slice (some ⟨b, off, none⟩) n cap, .int .i64 m] w fun e w' => PkPost xs m w e w' := by
  have hlen := hl.len
  have P0 := ps_new w (.slice (some ⟨b, off, none⟩) n cap)
  have hbg : b ≠ w.heap.size + 1 + 1 := by have := hl.lt; omega
  have hf := fixedS_ok (w.heap.size + 1 + 1) b off n cap 0 1 xs _ P0.rd (hl.below P0.bel) hB hbg hn (by omega) (by decide) (by decide)
  have eP := pk_long xs m (by omega) (by omega) hm hF
  have e : pkLong xs (vals (sub xs 0 1)) = .error 2 := by rw [pkLong_4 (by omega) (cid_ok xs 5 L1 (by omega) hL1 h81 (by omega)) (show pkCid xs (5 + 1 + L1) = .ok _ by rw [show 5 + 1 + L1 = 6 + L1 from rfl]; exact cid_ok xs (6 + L1) L2 (by omega) hL2 h82 (by omega))]; unfold pkTail; have hq : lform (vals (sub xs 0 1)) = 2 := (by unfold lform; rw [if_neg (by omega), if_neg (by omega), if_neg (by omega), if_pos hk2]); rw [if_neg hv0, hq, if_neg (by decide), if_neg (by decide), if_pos rfl, beh_e3 xs _ U2 M2 hv2 hU2 hM2 (by omega) (by omega)]
  have d1 : decide (vals (sub xs 0 1) < 64) = false := decide_eq_false (by omega)
  have d1b : decide (vals (sub xs 0 1) < 128) = false := decide_eq_false hF
  have HX : Hid _ := And.intro eP (And.intro e (And.intro P0 (And.intro hl (And.intro hB (And.intro hn (And.intro hbg (And.intro hlen (And.intro h6 (And.intro hL1 (And.intro h81 (And.intro hs1 (And.intro h7 (And.intro hL2 (And.intro h82 (And.intro hs2 (And.intro hv0 (And.intro hk1 (And.intro hk2 (And.intro hv2 (And.intro hU2 (And.intro hM2 (And.intro hM2n (And.intro hb (And.intro hb2 hs3))))))))))))))))))))))))
  clear eP e P0 hl hB hbg hlen hF hn h1 h6 hL1 h81 hs1 h7 hL2 h82 hs2 hv0 hk1 hk2 hv2 hU2 hM2 hM2n hb hb2 hs3
  obtain ⟨f, hfe⟩ : ∃ f, f = vals (sub xs 0 1) := ⟨_, rfl⟩
  rw [← hfe] at hf d1 d1b
  have HFE : Hid _ := And.intro hfe True.intro
  clear hfe
  go_enter Tryz.func38, Tryz.ntmps38
  go_wp2_with fail
  go_at_call 61
  refine hf.mono ?_
  rintro e w1 ⟨rfl, r1, c1⟩
  clear hf
  have HA : Hid _ := And.intro (HX.out.2.2.1.next r1 c1) True.intro
  have f1 := HA.out.1.rd.c2
  clear r1 c1
  have hv := fixedS_ok (w.heap.size + 1 + 1) b off n cap (0 + 1) 4 xs w1 HA.out.1.rd (HX.out.2.2.2.1.below HA.out.1.bel) HX.out.2.2.2.2.1 HX.out.2.2.2.2.2.2.1 HX.out.2.2.2.2.2.1 (by have a0 := HX.out.2.2.2.2.2.2.2.2.1; omega) (by decide) (by decide)
  obtain ⟨V, hVe⟩ : ∃ V, V = vals (sub xs (0 + 1) 4) := ⟨_, rfl⟩
  rw [← hVe] at hv
  have HVE : Hid _ := And.intro hVe True.intro
  clear hVe
  go_wp2_with fail
  go_at_call 61
  refine hv.mono ?_
  rintro e w2 ⟨rfl, r2, c2⟩
  clear hv f1
  have HC : Hid _ := And.intro (ph_new (HA.out.1.next r2 c2) V) True.intro
  clear r2 c2
  have hc := fixedS_ok (w.heap.size + 1 + 1) b off n cap 5 1 xs _ (show srB _ _ _ ((5 : Nat) : Int) _ from HC.out.1.ps.rd) (HX.out.2.2.2.1.below HC.out.1.ps.bel) HX.out.2.2.2.2.1 HX.out.2.2.2.2.2.2.1 HX.out.2.2.2.2.2.1 (by have a0 := HX.out.2.2.2.2.2.2.2.2.1; omega) (by decide) (by decide)
  rw [HX.out.2.2.2.2.2.2.2.2.2.1] at hc
  go_wp2_with fail
  go_at_call 61
  refine hc.mono ?_
  rintro e w3 ⟨rfl, r3, c3⟩
  clear hc
  have HE3 : Hid _ := And.intro (HC.out.1.next r3 c3) (Nat.le_trans HC.out.1.ps.bel.size c3.size)
  have f3 := HE3.out.1.ps.rd.c2
  clear r3 c3
  have ht := takeS_ok (w.heap.size + 1 + 1) b off n cap (5 + 1) L1 xs w3 HE3.out.1.ps.rd (HX.out.2.2.2.1.below HE3.out.1.ps.bel) HX.out.2.2.2.2.2.2.1 HX.out.2.2.2.2.2.1 (by have a0 := HX.out.2.2.2.2.2.2.2.2.2.2.2.1; omega)
  have b1 : decide ((8 : Int) < (L1 : Int)) = false := decide_eq_false (by have a0 := HX.out.2.2.2.2.2.2.2.2.2.2.1; omega)
  go_wp2_with fail
  go_at_call 62
  refine ht.mono ?_
  rintro e w4 ⟨vd, rfl, o4, r4, c4⟩
  clear ht f3
  obtain ⟨da, dp, ed⟩ := (row_of_owns o4).form
  rw [sub_len xs (5 + 1) L1 (by have a0 := HX.out.2.2.2.2.2.2.2.1; have a1 := HX.out.2.2.2.2.2.2.2.2.2.2.2.1; omega)] at ed
  subst ed
  have HT4 := HE3.out.1.next r4 c4
  have s2 : w4.cell? ⟨w2.heap.size, 2, none⟩ = some (.slice none 0 0) := (hdB_cells HT4.hd).2.2.1
  have s2f : w4.frozen? ⟨w2.heap.size, 2, none⟩ = false := (hdB_free HT4.hd).2.2.1
  have HF4 : Hid _ := And.intro (HT4.set2 (.slice da L1 dp)) (And.intro o4 c4.size)
  clear HT4 r4 c4 o4
  have hc := fixedS_ok (w.heap.size + 1 + 1) b off n cap (6 + L1) 1 xs _ (show srB _ _ _ ((6 + L1 : Nat) : Int) _ from HF4.out.1.ps.rd) (HX.out.2.2.2.1.below HF4.out.1.ps.bel) HX.out.2.2.2.2.1 HX.out.2.2.2.2.2.2.1 HX.out.2.2.2.2.2.1 (by have a0 := HX.out.2.2.2.2.2.2.2.2.2.2.2.2.1; omega) (by decide) (by decide)
  rw [HX.out.2.2.2.2.2.2.2.2.2.2.2.2.2.1] at hc
  go_wp2_with fail
  go_at_call 61
  refine hc.mono ?_
  rintro e w5 ⟨rfl, r5, c5⟩
  clear hc s2 s2f b1
  have HE5 : Hid _ := And.intro (HF4.out.1.next r5 c5) c5
  have f5 := HE5.out.1.ps.rd.c2
  clear r5 c5
  have ht := takeS_ok (w.heap.size + 1 + 1) b off n cap (6 + L1 + 1) L2 xs w5 HE5.out.1.ps.rd (HX.out.2.2.2.1.below HE5.out.1.ps.bel) HX.out.2.2.2.2.2.2.1 HX.out.2.2.2.2.2.1 (by have a0 := HX.out.2.2.2.2.2.2.2.2.2.2.2.2.2.2.2.1; omega)
  have b2 : decide ((8 : Int) < (L2 : Int)) = false := decide_eq_false (by have a0 := HX.out.2.2.2.2.2.2.2.2.2.2.2.2.2.2.1; omega)
  go_wp2_with fail
  go_at_call 62
  refine ht.mono ?_
  rintro e w6 ⟨vs, rfl, o6, r6, c6⟩
  clear ht f5
  obtain ⟨sa, sp, es⟩ := (row_of_owns o6).form
  rw [sub_len xs (6 + L1 + 1) L2 (by have a0 := HX.out.2.2.2.2.2.2.2.1; have a1 := HX.out.2.2.2.2.2.2.2.2.2.2.2.2.2.2.2.1; omega)] at es
  subst es
  have HT6 := HE5.out.1.next r6 c6
  have s3 : w6.cell? ⟨w2.heap.size, 3, none⟩ = some (.slice none 0 0) := (hdB_cells HT6.hd).2.2.2.1
  have s3f : w6.frozen? ⟨w2.heap.size, 3, none⟩ = false := (hdB_free HT6.hd).2.2.2.1
  have hbl : w2.heap.size < w3.heap.size := (Array.getElem?_eq_some_iff.1 HE3.out.1.hd).1
  have hgl := HE3.out.1.ps.rd.lt
  have hs45 : w4.heap.size ≤ w5.heap.size := by have h := HE5.out.2.size; rw [sizeS] at h; exact h
  have hs34 : w3.heap.size ≤ w4.heap.size := HF4.out.2.2
  have cZ : Chg (SG (w.heap.size + 1 + 1) w2.heap.size) w4 (w6.setCell ⟨w2.heap.size, 3, none⟩ (.slice sa L2 sp)) := ((((Chg.refl (SG (w.heap.size + 1 + 1) w2.heap.size) w4).setP 2 (.slice da L1 dp)).trans HE5.out.2.toG).trans c6.toG).setP 3 (.slice sa L2 sp)
  have od := cZ.ownsG HF4.out.2.1 hgl hbl
  have os : (w6.setCell ⟨w2.heap.size, 3, none⟩ (.slice sa L2 sp)).ownsRow w5.heap.size 5 1 (.slice sa L2 sp) L2 ((sub xs (6 + L1 + 1) L2).map (Value.int .u8)) := owns_set o6 (by omega)
  have HO : Hid _ := And.intro od (And.intro os (And.intro (apart_of HF4.out.2.1 o6 hs45) (And.intro hgl (And.intro hbl (And.intro (Nat.le_trans hs34 hs45) (by have := HE3.out.2; omega : w.heap.size < w3.heap.size))))))
  have HF6 : Hid _ := And.intro (HT6.set3 (.slice sa L2 sp)) True.intro
  have f6 := HF6.out.1.ps.rd.c2
  have v6 := (hdB_cells HF6.out.1.hd).2.1
  clear HT6 r6 c6 o6 cZ od os hgl hbl hs45 hs34
  have z0 : (V == 0) = false := by rw [HVE.out.1]; have h := HX.out.2.2.2.2.2.2.2.2.2.2.2.2.2.2.2.2.1; simpa using h
  have z1 : decide (f < 192) = false := by rw [HFE.out.1]; exact decide_eq_false (by have a0 := HX.out.2.2.2.2.2.2.2.2.2.2.2.2.2.2.2.2.2.1; omega)
  have zw : IntKind.i64.wrap (f - 192) = f - 192 := by rw [IntKind.wrap_i64, HFE.out.1]; have h1 := HX.out.2.2.2.2.2.2.2.2.2.2.2.2.2.2.2.2.2.1; have h2 := HX.out.2.2.2.2.2.2.2.2.2.2.2.2.2.2.2.2.2.2.1; omega
  have zq : (f - 192).tdiv 16 = 2 := by rw [HFE.out.1, Int.tdiv_eq_ediv_of_nonneg (by have h1 := HX.out.2.2.2.2.2.2.2.2.2.2.2.2.2.2.2.2.2.1; omega)]; have h1 := HX.out.2.2.2.2.2.2.2.2.2.2.2.2.2.2.2.2.2.1; have h2 := HX.out.2.2.2.2.2.2.2.2.2.2.2.2.2.2.2.2.2.2.1; omega
  have m1 := (hdB_cells HF6.out.1.hd).1
  have mf1 := (hdB_free HF6.out.1.hd).1
  have HM1 : Hid _ := And.intro (HF6.out.1.set0 (.int .i64 2)) ((Chg.refl (SG (w.heap.size + 1 + 1) w2.heap.size) (w6.setCell ⟨w2.heap.size, 3, none⟩ (.slice sa L2 sp))).setP 0 (.int .i64 2))
  have fm1 := HM1.out.1.ps.rd.c2
  have vm1 := (hdB_cells HM1.out.1.hd).2.1
  have hvr9 := variableS_ok (w.heap.size + 1 + 1) b off n cap (6 + L1 + 1 + L2) xs _ (show srB _ _ _ (((6 + L1 + 1 + L2) : Nat) : Int) _ from HM1.out.1.ps.rd) (HX.out.2.2.2.1.below HM1.out.1.ps.bel) HX.out.2.2.2.2.1 HX.out.2.2.2.2.2.1 HX.out.2.2.2.2.2.2.2.2.2.2.2.2.2.2.2.2.2.2.2.1
  rw [HX.out.2.2.2.2.2.2.2.2.2.2.2.2.2.2.2.2.2.2.2.2.1, HX.out.2.2.2.2.2.2.2.2.2.2.2.2.2.2.2.2.2.2.2.2.2.1] at hvr9
  go_wp2_with fail
  go_at_call 66
  refine hvr9.mono ?_
  rintro e w9 ⟨rfl, r9, c9⟩
  clear hvr9
  have HR9 : Hid _ := And.intro (HM1.out.1.next r9 c9) (HM1.out.2.trans c9.toG)
  have HC9 : Hid _ := And.intro c9 True.intro
  clear r9 c9
  have fr9 := HR9.out.1.ps.rd.c2
  have b5 : decide ((U2 : Int) < 12) = false := decide_eq_false (by have a0 := HX.out.2.2.2.2.2.2.2.2.2.2.2.2.2.2.2.2.2.2.2.2.2.2.2.1; omega)
  have b6 : decide ((1508 : Int) < (U2 : Int)) = false := decide_eq_false (by have a0 := HX.out.2.2.2.2.2.2.2.2.2.2.2.2.2.2.2.2.2.2.2.2.2.2.2.2.1; omega)
  have htk10 := takeS_no (w.heap.size + 1 + 1) (some ⟨b, off, none⟩) n cap ((M2 : Nat) : Int) U2 false _ HR9.out.1.ps.rd ⟨by omega, by have a0 := HX.out.2.2.2.2.2.2.2.2.2.2.2.2.2.2.2.2.2.2.2.2.2.2.1; omega⟩ (by have a0 := HX.out.2.2.2.2.2.1; omega) (Or.inr (by have a0 := HX.out.2.2.2.2.2.2.2.2.2.2.2.2.2.2.2.2.2.2.2.2.2.2.2.2.2; omega))
  go_wp2_with fail
  go_at_call 62
  refine htk10.mono ?_
  rintro e w10 ⟨q10, rfl, hq10, o10, r10, c10⟩
  clear htk10
  have HR10 : Hid _ := And.intro (HR9.out.1.next r10 c10) (HR9.out.2.trans c10.toG)
  clear r10 c10 o10 hq10
  have fr10 := HR10.out.1.ps.rd.c2
  obtain ⟨zc0, zc1, zc2, zc3, zc4, zc5, zc6, zc7⟩ := hdB_cells HR10.out.1.ps.r0
  obtain ⟨zf0, zf1, zf2, zf3, zf4, zf5, zf6, zf7⟩ := hdB_free HR10.out.1.ps.r0
  obtain ⟨zn0, zn1, zn2, zn3, zn4, zn5, zn6, zn7⟩ := hdB_cells HR10.out.1.ps.r1
  go_wp2_with fail
  refine bodyPost_ret (v := .tuple #[.agg #[.int .i64 0, .int .i64 0, .slice none 0 0, .slice none 0 0, .slice none 0 0, .int .i64 0, .int .i64 0, .int .i64 0], .int .i64 0, .int .i64 2]) ?_ rfl ?_
  · exact results_row_tmp2 (t := 24) rfl _ _ w.heap.size _ (fr := (0, 0)) _ _ _ rfl rfl rfl HR10.out.1.ps.zend.2 Tryz.underlying24 rfl infoHd
  · exact ⟨HR10.out.1.ps.zend.1, Or.inl ⟨2, HX.out.1.trans HX.out.2.1, rfl⟩⟩
set_option maxRecDepth 20000 in
set_option maxHeartbeats 4000000 in
theorem peekS_l28 (b off n cap m : Nat) (xs : List Int) (w : World) (hl : Lies w b off n cap xs) (hB : Bytes xs) (hn : n ≤ 65536) (h1 : 1 ≤ n) (hm : m ≤ 8) (hF : ¬ vals (sub xs 0 1) < 128) (h6 : ¬ n < 6) (L1 : Nat) (hL1 : vals (sub xs 5 1) = (L1 : Int)) (h81 : ¬ 8 < L1) (hs1 : ¬ n < 6 + L1) (h7 : ¬ n < 7 + L1) (L2 : Nat) (hL2 : vals (sub xs (6 + L1) 1) = (L2 : Int)) (h82 : ¬ 8 < L2) (hs2 : ¬ n < 7 + L1 + L2) (hv0 : ¬ vals (sub xs 1 4) = 0) (hk1 : 224 ≤ vals (sub xs 0 1)) (hk2 : vals (sub xs 0 1) < 240) (hv2 : varOK xs (6 + L1 + 1 + L2)) (U2 M2 : Nat) (hU2 : varV xs (6 + L1 + 1 + L2) = (U2 : Int)) (hM2 : varN xs (6 + L1 + 1 + L2) = M2) (hM2n : M2 ≤ n) (hb : ¬ U2 < 12) (hb2 : ¬ 1508 < U2) (hs3 : ¬ n < M2 + U2) :
    Calls Tryz.prog 38 #[.slice (some ⟨b, off, none⟩) n cap, .int .i64 m] w fun e w' => PkPost xs m w e w' := by
  have hlen := hl.len
  have P0 := ps_new w (.slice (some ⟨b, off, none⟩) n cap)
  have hbg : b ≠ w.heap.size + 1 + 1 := by have := hl.lt; omega
  have hf := fixedS_ok (w.heap.size + 1 + 1) b off n cap 0 1 xs _ P0.rd (hl.below P0.bel) hB hbg hn (by omega) (by decide) (by decide)
  have eP := pk_long xs m (by omega) (by omega) hm hF
  have e : pkLong xs (vals (sub xs 0 1)) = .ok ⟨2, vals (sub xs 1 4), sub xs (5 + 1) L1, sub xs (6 + L1 + 1) L2, [], [], M2, (M2 + U2)⟩ := by rw [pkLong_4 (by omega) (cid_ok xs 5 L1 (by omega) hL1 h81 (by omega)) (show pkCid xs (5 + 1 + L1) = .ok _ by rw [show 5 + 1 + L1 = 6 + L1 from rfl]; exact cid_ok xs (6 + L1) L2 (by omega) hL2 h82 (by omega))]; unfold pkTail; have hq : lform (vals (sub xs 0 1)) = 2 := (by unfold lform; rw [if_neg (by omega), if_neg (by omega), if_neg (by omega), if_pos hk2]); rw [if_neg hv0, hq, if_neg (by decide), if_neg (by decide), if_pos rfl, beh_ok xs _ U2 M2 hv2 hU2 hM2 (by omega) (by omega)]
  have d1 : decide (vals (sub xs 0 1) < 64) = false := decide_eq_false (by omega)
  have d1b : decide (vals (sub xs 0 1) < 128) = false := decide_eq_false hF
  have HX : Hid _ := And.intro eP (And.intro e (And.intro P0 (And.intro hl (And.intro hB (And.intro hn (And.intro hbg (And.intro hlen (And.intro h6 (And.intro hL1 (And.intro h81 (And.intro hs1 (And.intro h7 (And.intro hL2 (And.intro h82 (And.intro hs2 (And.intro hv0 (And.intro hk1 (And.intro hk2 (And.intro hv2 (And.intro hU2 (And.intro hM2 (And.intro hM2n (And.intro hb (And.intro hb2 hs3))))))))))))))))))))))))
  clear eP e P0 hl hB hbg hlen hF hn h1 h6 hL1 h81 hs1 h7 hL2 h82 hs2 hv0 hk1 hk2 hv2 hU2 hM2 hM2n hb hb2 hs3
  obtain ⟨f, hfe⟩ : ∃ f, f = vals (sub xs 0 1) := ⟨_, rfl⟩
  rw [← hfe] at hf d1 d1b
  have HFE : Hid _ := And.intro hfe True.intro
  clear hfe
  go_enter Tryz.func38, Tryz.ntmps38
  go_wp2_with fail
  go_at_call 61
  refine hf.mono ?_
  rintro e w1 ⟨rfl, r1, c1⟩
  clear hf
  have HA : Hid _ := And.intro (HX.out.2.2.1.next r1 c1) True.intro
  have f1 := HA.out.1.rd.c2
  clear r1 c1
  have hv := fixedS_ok (w.heap.size + 1 + 1) b off n cap (0 + 1) 4 xs w1 HA.out.1.rd (HX.out.2.2.2.1.below HA.out.1.bel) HX.out.2.2.2.2.1 HX.out.2.2.2.2.2.2.1 HX.out.2.2.2.2.2.1 (by have a0 := HX.out.2.2.2.2.2.2.2.2.1; omega) (by decide) (by decide)
  obtain ⟨V, hVe⟩ : ∃ V, V = vals (sub xs (0 + 1) 4) := ⟨_, rfl⟩
  rw [← hVe] at hv
  have HVE : Hid _ := And.intro hVe True.intro
  clear hVe
  go_wp2_with fail
  go_at_call 61
  refine hv.mono ?_
  rintro e w2 ⟨rfl, r2, c2⟩
  clear hv f1
  have HC : Hid _ := And.intro (ph_new (HA.out.1.next r2 c2) V) True.intro
  clear r2 c2
  have hc := fixedS_ok (w.heap.size + 1 + 1) b off n cap 5 1 xs _ (show srB _ _ _ ((5 : Nat) : Int) _ from HC.out.1.ps.rd) (HX.out.2.2.2.1.below HC.out.1.ps.bel) HX.out.2.2.2.2.1 HX.out.2.2.2.2.2.2.1 HX.out.2.2.2.2.2.1 (by have a0 := HX.out.2.2.2.2.2.2.2.2.1; omega) (by decide) (by decide)
  rw [HX.out.2.2.2.2.2.2.2.2.2.1] at hc
  go_wp2_with fail
  go_at_call 61
  refine hc.mono ?_
  rintro e w3 ⟨rfl, r3, c3⟩
  clear hc
  have HE3 : Hid _ := And.intro (HC.out.1.next r3 c3) (Nat.le_trans HC.out.1.ps.bel.size c3.size)
  have f3 := HE3.out.1.ps.rd.c2
  clear r3 c3
  have ht := takeS_ok (w.heap.size + 1 + 1) b off n cap (5 + 1) L1 xs w3 HE3.out.1.ps.rd (HX.out.2.2.2.1.below HE3.out.1.ps.bel) HX.out.2.2.2.2.2.2.1 HX.out.2.2.2.2.2.1 (by have a0 := HX.out.2.2.2.2.2.2.2.2.2.2.2.1; omega)
  have b1 : decide ((8 : Int) < (L1 : Int)) = false := decide_eq_false (by have a0 := HX.out.2.2.2.2.2.2.2.2.2.2.1; omega)
  go_wp2_with fail
  go_at_call 62
  refine ht.mono ?_
  rintro e w4 ⟨vd, rfl, o4, r4, c4⟩
  clear ht f3
  obtain ⟨da, dp, ed⟩ := (row_of_owns o4).form
  rw [sub_len xs (5 + 1) L1 (by have a0 := HX.out.2.2.2.2.2.2.2.1; have a1 := HX.out.2.2.2.2.2.2.2.2.2.2.2.1; omega)] at ed
  subst ed
  have HT4 := HE3.out.1.next r4 c4
  have s2 : w4.cell? ⟨w2.heap.size, 2, none⟩ = some (.slice none 0 0) := (hdB_cells HT4.hd).2.2.1
  have s2f : w4.frozen? ⟨w2.heap.size, 2, none⟩ = false := (hdB_free HT4.hd).2.2.1
  have HF4 : Hid _ := And.intro (HT4.set2 (.slice da L1 dp)) (And.intro o4 c4.size)
  clear HT4 r4 c4 o4
  have hc := fixedS_ok (w.heap.size + 1 + 1) b off n cap (6 + L1) 1 xs _ (show srB _ _ _ ((6 + L1 : Nat) : Int) _ from HF4.out.1.ps.rd) (HX.out.2.2.2.1.below HF4.out.1.ps.bel) HX.out.2.2.2.2.1 HX.out.2.2.2.2.2.2.1 HX.out.2.2.2.2.2.1 (by have a0 := HX.out.2.2.2.2.2.2.2.2.2.2.2.2.1; omega) (by decide) (by decide)
  rw [HX.out.2.2.2.2.2.2.2.2.2.2.2.2.2.1] at hc
  go_wp2_with fail
  go_at_call 61
  refine hc.mono ?_
  rintro e w5 ⟨rfl, r5, c5⟩
  clear hc s2 s2f b1
  have HE5 : Hid _ := And.intro (HF4.out.1.next r5 c5) c5
  have f5 := HE5.out.1.ps.rd.c2
  clear r5 c5
  have ht := takeS_ok (w.heap.size + 1 + 1) b off n cap (6 + L1 + 1) L2 xs w5 HE5.out.1.ps.rd (HX.out.2.2.2.1.below HE5.out.1.ps.bel) HX.out.2.2.2.2.2.2.1 HX.out.2.2.2.2.2.1 (by have a0 := HX.out.2.2.2.2.2.2.2.2.2.2.2.2.2.2.2.1; omega)
  have b2 : decide ((8 : Int) < (L2 : Int)) = false := decide_eq_false (by have a0 := HX.out.2.2.2.2.2.2.2.2.2.2.2.2.2.2.1; omega)
  go_wp2_with fail
  go_at_call 62
  refine ht.mono ?_
  rintro e w6 ⟨vs, rfl, o6, r6, c6⟩
  clear ht f5
  obtain ⟨sa, sp, es⟩ := (row_of_owns o6).form
  rw [sub_len xs (6 + L1 + 1) L2 (by have a0 := HX.out.2.2.2.2.2.2.2.1; have a1 := HX.out.2.2.2.2.2.2.2.2.2.2.2.2.2.2.2.1; omega)] at es
  subst es
  have HT6 := HE5.out.1.next r6 c6
  have s3 : w6.cell? ⟨w2.heap.size, 3, none⟩ = some (.slice none 0 0) := (hdB_cells HT6.hd).2.2.2.1
  have s3f : w6.frozen? ⟨w2.heap.size, 3, none⟩ = false := (hdB_free HT6.hd).2.2.2.1
  have hbl : w2.heap.size < w3.heap.size := (Array.getElem?_eq_some_iff.1 HE3.out.1.hd).1
  have hgl := HE3.out.1.ps.rd.lt
  have hs45 : w4.heap.size ≤ w5.heap.size := by have h := HE5.out.2.size; rw [sizeS] at h; exact h
  have hs34 : w3.heap.size ≤ w4.heap.size := HF4.out.2.2
  have cZ : Chg (SG (w.heap.size + 1 + 1) w2.heap.size) w4 (w6.setCell ⟨w2.heap.size, 3, none⟩ (.slice sa L2 sp)) := ((((Chg.refl (SG (w.heap.size + 1 + 1) w2.heap.size) w4).setP 2 (.slice da L1 dp)).trans HE5.out.2.toG).trans c6.toG).setP 3 (.slice sa L2 sp)
  have od := cZ.ownsG HF4.out.2.1 hgl hbl
  have os : (w6.setCell ⟨w2.heap.size, 3, none⟩ (.slice sa L2 sp)).ownsRow w5.heap.size 5 1 (.slice sa L2 sp) L2 ((sub xs (6 + L1 + 1) L2).map (Value.int .u8)) := owns_set o6 (by omega)
  have HO : Hid _ := And.intro od (And.intro os (And.intro (apart_of HF4.out.2.1 o6 hs45) (And.intro hgl (And.intro hbl (And.intro (Nat.le_trans hs34 hs45) (by have := HE3.out.2; omega : w.heap.size < w3.heap.size))))))
  have HF6 : Hid _ := And.intro (HT6.set3 (.slice sa L2 sp)) True.intro
  have f6 := HF6.out.1.ps.rd.c2
  have v6 := (hdB_cells HF6.out.1.hd).2.1
  clear HT6 r6 c6 o6 cZ od os hgl hbl hs45 hs34
  have z0 : (V == 0) = false := by rw [HVE.out.1]; have h := HX.out.2.2.2.2.2.2.2.2.2.2.2.2.2.2.2.2.1; simpa using h
  have z1 : decide (f < 192) = false := by rw [HFE.out.1]; exact decide_eq_false (by have a0 := HX.out.2.2.2.2.2.2.2.2.2.2.2.2.2.2.2.2.2.1; omega)
  have zw : IntKind.i64.wrap (f - 192) = f - 192 := by rw [IntKind.wrap_i64, HFE.out.1]; have h1 := HX.out.2.2.2.2.2.2.2.2.2.2.2.2.2.2.2.2.2.1; have h2 := HX.out.2.2.2.2.2.2.2.2.2.2.2.2.2.2.2.2.2.2.1; omega
  have zq : (f - 192).tdiv 16 = 2 := by rw [HFE.out.1, Int.tdiv_eq_ediv_of_nonneg (by have h1 := HX.out.2.2.2.2.2.2.2.2.2.2.2.2.2.2.2.2.2.1; omega)]; have h1 := HX.out.2.2.2.2.2.2.2.2.2.2.2.2.2.2.2.2.2.1; have h2 := HX.out.2.2.2.2.2.2.2.2.2.2.2.2.2.2.2.2.2.2.1; omega
  have m1 := (hdB_cells HF6.out.1.hd).1
  have mf1 := (hdB_free HF6.out.1.hd).1
  have HM1 : Hid _ := And.intro (HF6.out.1.set0 (.int .i64 2)) ((Chg.refl (SG (w.heap.size + 1 + 1) w2.heap.size) (w6.setCell ⟨w2.heap.size, 3, none⟩ (.slice sa L2 sp))).setP 0 (.int .i64 2))
  have fm1 := HM1.out.1.ps.rd.c2
  have vm1 := (hdB_cells HM1.out.1.hd).2.1
  have hvr9 := variableS_ok (w.heap.size + 1 + 1) b off n cap (6 + L1 + 1 + L2) xs _ (show srB _ _ _ (((6 + L1 + 1 + L2) : Nat) : Int) _ from HM1.out.1.ps.rd) (HX.out.2.2.2.1.below HM1.out.1.ps.bel) HX.out.2.2.2.2.1 HX.out.2.2.2.2.2.1 HX.out.2.2.2.2.2.2.2.2.2.2.2.2.2.2.2.2.2.2.2.1
  rw [HX.out.2.2.2.2.2.2.2.2.2.2.2.2.2.2.2.2.2.2.2.2.1, HX.out.2.2.2.2.2.2.2.2.2.2.2.2.2.2.2.2.2.2.2.2.2.1] at hvr9
  go_wp2_with fail
  go_at_call 66
  refine hvr9.mono ?_
  rintro e w9 ⟨rfl, r9, c9⟩
  clear hvr9
  have HR9 : Hid _ := And.intro (HM1.out.1.next r9 c9) (HM1.out.2.trans c9.toG)
  have HC9 : Hid _ := And.intro c9 True.intro
  clear r9 c9
  have fr9 := HR9.out.1.ps.rd.c2
  have b5 : decide ((U2 : Int) < 12) = false := decide_eq_false (by have a0 := HX.out.2.2.2.2.2.2.2.2.2.2.2.2.2.2.2.2.2.2.2.2.2.2.2.1; omega)
  have b6 : decide ((1508 : Int) < (U2 : Int)) = false := decide_eq_false (by have a0 := HX.out.2.2.2.2.2.2.2.2.2.2.2.2.2.2.2.2.2.2.2.2.2.2.2.2.1; omega)
  have htk10 := takeS_ok (w.heap.size + 1 + 1) b off n cap M2 U2 xs _ (show srB _ _ _ ((M2 : Nat) : Int) _ from HR9.out.1.ps.rd) (HX.out.2.2.2.1.below HR9.out.1.ps.bel) HX.out.2.2.2.2.2.2.1 HX.out.2.2.2.2.2.1 (by have a0 := HX.out.2.2.2.2.2.2.2.2.2.2.2.2.2.2.2.2.2.2.2.2.2.2.2.2.2; omega)
  go_wp2_with fail
  go_at_call 62
  refine htk10.mono ?_
  rintro e w10 ⟨vt10, rfl, o10, r10, c10⟩
  clear htk10
  have HR10 : Hid _ := And.intro (HR9.out.1.next r10 c10) (And.intro (HR9.out.2.trans c10.toG) (And.intro o10 c10.size))
  have HC10 : Hid _ := And.intro c10 True.intro
  clear r10 c10 o10
  have fr10 := HR10.out.1.ps.rd.c2
  have rp := HR10.out.1.ps.rd.c1
  obtain ⟨ra, era⟩ : ∃ ra : Nat, ra = M2 + U2 := ⟨_, rfl⟩
  rw [← era] at rp
  have HRA : Hid _ := And.intro era True.intro
  clear era
  obtain ⟨zc0, zc1, zc2, zc3, zc4, zc5, zc6, zc7⟩ := hdB_cells HR10.out.1.ps.r0
  obtain ⟨zf0, zf1, zf2, zf3, zf4, zf5, zf6, zf7⟩ := hdB_free HR10.out.1.ps.r0
  obtain ⟨g0, g1, g2, g3, g4, g5, g6, g7⟩ := hdB_cells HR10.out.1.hd
  obtain ⟨n0, n1, n2, n3, n4, n5⟩ := HR10.out.1.ne
  have hE8 : (st8 w10 w.heap.size (.int .i64 2) (.int .i64 V) (.slice da L1 dp) (.slice sa L2 sp) (.slice none 0 0) (.int .i64 0) (.int .i64 0) (.int .i64 0)).heap[w.heap.size]? = _ := st8_heap (a0 := .int .i64 2) (a1 := .int .i64 V) (a2 := .slice da L1 dp) (a3 := .slice sa L2 sp) (a4 := .slice none 0 0) (a5 := .int .i64 0) (a6 := .int .i64 0) (a7 := .int .i64 0) HR10.out.1.ps.r0
  have hB8 : Below w.heap.size w (st8 w10 w.heap.size (.int .i64 2) (.int .i64 V) (.slice da L1 dp) (.slice sa L2 sp) (.slice none 0 0) (.int .i64 0) (.int .i64 0) (.int .i64 0)) := st8_below (a0 := .int .i64 2) (a1 := .int .i64 V) (a2 := .slice da L1 dp) (a3 := .slice sa L2 sp) (a4 := .slice none 0 0) (a5 := .int .i64 0) (a6 := .int .i64 0) (a7 := .int .i64 0) HR10.out.1.ps.bel (Nat.le_refl w.heap.size)
  have hw3 : w.heap.size < w3.heap.size := HO.out.2.2.2.2.2.2
  have hw5 : w3.heap.size ≤ w5.heap.size := HO.out.2.2.2.2.2.1
  have od1 := HR10.out.2.1.ownsG HO.out.1 HO.out.2.2.2.1 HO.out.2.2.2.2.1
  have os1 := HR10.out.2.1.ownsG HO.out.2.1 (Nat.lt_of_lt_of_le HO.out.2.2.2.1 hw5) (Nat.lt_of_lt_of_le HO.out.2.2.2.2.1 hw5)
  have od2 : (st8 w10 w.heap.size (.int .i64 2) (.int .i64 V) (.slice da L1 dp) (.slice sa L2 sp) (.slice none 0 0) (.int .i64 0) (.int .i64 0) (.int .i64 0)).ownsRow w3.heap.size 5 1 (.slice da L1 dp) L1 _ := st8_owns (a0 := .int .i64 2) (a1 := .int .i64 V) (a2 := .slice da L1 dp) (a3 := .slice sa L2 sp) (a4 := .slice none 0 0) (a5 := .int .i64 0) (a6 := .int .i64 0) (a7 := .int .i64 0) od1 hw3
  have os2 : (st8 w10 w.heap.size (.int .i64 2) (.int .i64 V) (.slice da L1 dp) (.slice sa L2 sp) (.slice none 0 0) (.int .i64 0) (.int .i64 0) (.int .i64 0)).ownsRow w5.heap.size 5 1 (.slice sa L2 sp) L2 _ := st8_owns (a0 := .int .i64 2) (a1 := .int .i64 V) (a2 := .slice da L1 dp) (a3 := .slice sa L2 sp) (a4 := .slice none 0 0) (a5 := .int .i64 0) (a6 := .int .i64 0) (a7 := .int .i64 0) os1 (Nat.lt_of_lt_of_le hw3 hw5)
  have hd2 : (st8 w10 w.heap.size (.int .i64 2) (.int .i64 V) (.slice da L1 dp) (.slice sa L2 sp) (.slice none 0 0) (.int .i64 0) (.int .i64 0) (.int .i64 0)).drew.ownsRow w.heap.size 5 1 (.slice da L1 dp) (sub xs (5 + 1) L1).length ((sub xs (5 + 1) L1).map (Value.int .u8)) := by rw [sub_len xs (5 + 1) L1 (by have a0 := HX.out.2.2.2.2.2.2.2.1; have a1 := HX.out.2.2.2.2.2.2.2.2.2.2.2.1; omega)]; exact owns_drew (owns_mono od2 (Nat.le_of_lt hw3))
  have hs2 : (st8 w10 w.heap.size (.int .i64 2) (.int .i64 V) (.slice da L1 dp) (.slice sa L2 sp) (.slice none 0 0) (.int .i64 0) (.int .i64 0) (.int .i64 0)).drew.ownsRow w.heap.size 5 1 (.slice sa L2 sp) (sub xs (6 + L1 + 1) L2).length ((sub xs (6 + L1 + 1) L2).map (Value.int .u8)) := by rw [sub_len xs (6 + L1 + 1) L2 (by have a0 := HX.out.2.2.2.2.2.2.2.1; have a1 := HX.out.2.2.2.2.2.2.2.2.2.2.2.2.2.2.2.1; omega)]; exact owns_drew (owns_mono os2 (by omega))
  have HQ : Hid _ := And.intro ((drew_heap _ _).trans hE8) (And.intro (below_drew' hB8) (And.intro hd2 (And.intro hs2 True.intro)))
  clear hE8 hB8 hw3 hw5 od1 os1 od2 os2 hd2 hs2
  go_wp2_with fail
  go_region
  go_wp2_with fail
  refine bodyPost_ret (v := .tuple #[.agg #[.int .i64 2, .int .i64 V, .slice da L1 dp, .slice sa L2 sp, .slice none 0 0, .int .i64 0, .int .i64 0, .int .i64 0], .int .i64 ra, .int .i64 0]) ?_ rfl ?_
  · exact results_row_tmp2 (t := 24) rfl _ _ w.heap.size _ (fr := (0, 0)) _ _ _ rfl rfl rfl HQ.out.1 Tryz.underlying24 rfl infoHd
  · refine ⟨HQ.out.2.1, Or.inr ⟨_, .slice da L1 dp, .slice sa L2 sp, .slice none 0 0, HX.out.1.trans HX.out.2.1, by rw [HVE.out.1, HRA.out.1], ⟨HQ.out.2.2.1, HQ.out.2.2.2.1, World.ownsRow_nil _ _ _ _, HO.out.2.2.1, apart_nil _, apart_nil _⟩⟩⟩
end Go.Proofs.YtoalillggafnpaaGreatDoor
