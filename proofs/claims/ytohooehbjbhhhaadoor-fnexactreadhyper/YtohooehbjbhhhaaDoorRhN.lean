import Derived.Test.YtohooehbjbhhhaaDoorRhM
namespace Go.Proofs.YtohooehbjbhhhaaDoor
open Go.RowKit
set_option linter.unusedVariables false

set_option maxRecDepth 20000 in
set_option maxHeartbeats 4000000 in
theorem rhS_15 (b off n cap p : Nat) (xs : List Int) (w : World) (hl : Lies w b off n cap xs) (hB : Bytes xs) (hn : n ≤ 65536) (hp : p ≤ n) (hv : varOK xs p) (hv2 : varOK xs (varN xs p)) (m Q2 : Nat) (em : varV xs (varN xs p) = (m : Int)) (eQ2 : varN xs (varN xs p) = Q2) (hbig : ¬ 16384 < m) (hfit : Q2 + m ≤ n) (hk : varV xs p = 15) (hy : varOK (sub xs Q2 m) 0) :
    Calls Tryd.prog 4 #[.slice (some ⟨b, off, none⟩) n cap, .int .i64 (p : Int)] w fun e w' => RhA' w.heap.size e w' (rhV (rhT xs p)) ∧ Below w.heap.size w w' := by
  have hRT := res_no xs p m Q2 (varV xs p) (sub xs Q2 m) hv hv2 em eQ2 hbig (by have := hl.len; omega) rfl rfl
  obtain ⟨h1, h2, h3⟩ := rsW_facts w (p : Int) (some ⟨b, off, none⟩) n cap
  have hbl := hl.lt
  have V1 := variableS_ok (w.heap.size + 1) b off n cap p xs _ h2 (hl.below h3) hB hn hv
  have hlen := hl.len
  have hb1 := varN_bd xs p hv
  have LI : ∀ u, Chg (· = w.heap.size + 1) (rsW w (p : Int) (some ⟨b, off, none⟩) n cap) u → Lies u b off n cap xs := fun u hc => (hl.below h3).chg hc (by omega)
  have hd1 : ¬ (65536 : Int) < (n : Int) := by omega
  have hd2 : ¬ (p : Int) < 0 := by omega
  have hd3 : ¬ (n : Int) < (p : Int) := by omega
  obtain ⟨K, eK⟩ : ∃ K, K = varV xs p := ⟨_, rfl⟩
  rw [← eK] at V1
  have HH : Hid _ := And.intro V1 (And.intro LI (And.intro hB (And.intro eK (And.intro hv hb1))))
  clear V1 h1 h2 h3 hl hB eK LI hv
  rw [← HH.out.2.2.2.1] at hRT hk
  have HK : Hid _ := And.intro hk True.intro
  clear hk
  have hbg : ¬ (16384 : Int) < (m : Int) := by omega
  go_enter Tryd.func4, Tryd.ntmps4
  go_wp2_with fail
  go_at_call 12
  refine HH.out.1.mono ?_
  rintro e w2 ⟨rfl, r2, c2⟩
  have C3 : Chg (· = w.heap.size + 1) (rsW w (p : Int) (some ⟨b, off, none⟩) n cap) (w2.alloc (.cells #[.int .i64 K, .int .i64 0, .slice none 0 0, .slice none 0 0] 25)) := c2.trans (Chg.of_below ((Below.refl _ _).alloc (Nat.le_refl _) _))
  have R3 : srB (w2.alloc (.cells #[.int .i64 K, .int .i64 0, .slice none 0 0, .slice none 0 0] 25)) (w.heap.size + 1) (.slice (some ⟨b, off, none⟩) n cap) ((varN xs p : Nat) : Int) false := r2.below ((Below.refl _ _).alloc (Nat.le_refl _) _)
  have F3 : fB (w2.alloc (.cells #[.int .i64 K, .int .i64 0, .slice none 0 0, .slice none 0 0] 25)) w2.heap.size K 0 (.slice none 0 0) (.slice none 0 0) := heap_alloc_new w2 _
  have hgF : w2.heap.size ≠ w.heap.size + 1 := by have := r2.lt; omega
  have hzF : w.heap.size + 2 ≤ w2.heap.size := by have := r2.lt; omega
  have H3 : Hid _ := And.intro C3 (And.intro R3 F3)
  clear C3 R3 F3 r2 c2
  have V2 := variableS_ok (w.heap.size + 1) b off n cap (varN xs p) xs _ H3.out.2.1 (HH.out.2.1 _ H3.out.1) HH.out.2.2.1 hn hv2
  rw [em, eQ2] at V2
  go_wp2_with fail
  go_at_call 12
  refine V2.mono ?_
  rintro e w4 ⟨rfl, r4, c4⟩
  have s4 := r4.c2
  have C4 := H3.out.1.trans c4
  have T4 := takeS_ok (w.heap.size + 1) b off n cap Q2 m xs w4 r4 (HH.out.2.1 _ C4) (by omega) hn hfit
  have F4 := H3.out.2.2.chg c4 hgF
  have H4 : Hid _ := And.intro C4 (And.intro T4 F4)
  have hys := sub_bytes HH.out.2.2.1 Q2 m
  have hyl : (sub xs Q2 m).length = m := sub_len xs Q2 m (by omega)
  have hKe : K = varV xs p := HH.out.2.2.2.1
  obtain ⟨ys, eys⟩ : ∃ ys, ys = sub xs Q2 m := ⟨_, rfl⟩
  rw [← eys] at hys hyl H4 hRT hy
  have HY : Hid _ := And.intro hys (And.intro hyl (And.intro hKe eys))
  clear C4 V2 c4 r4 em eQ2 T4 F4 hys hyl hKe eys
  go_wp2_with fail
  go_at_call 13
  refine H4.out.2.1.mono ?_
  rintro e w5 ⟨v, rfl, o5, r5, c5⟩
  obtain ⟨va, vc, rfl, pay5, hvl⟩ := pay_of_owns o5
  have b6 : Below w5.heap.size w5 (w5.alloc (.cells #[.slice va m vc, .int .i64 0, .bool false] 36)) := (Below.refl _ _).alloc (Nat.le_refl _) _
  have C6 : Chg (· = w.heap.size + 1) (rsW w (p : Int) (some ⟨b, off, none⟩) n cap) (w5.alloc (.cells #[.slice va m vc, .int .i64 0, .bool false] 36)) := (H4.out.1.trans c5).trans (Chg.of_below b6)
  obtain ⟨K6, B6⟩ := rs_R C6
  have R6 := r5.below b6
  have F6 : fB (w5.alloc (.cells #[.slice va m vc, .int .i64 0, .bool false] 36)) w2.heap.size K 0 (.slice none 0 0) (.slice none 0 0) := (H4.out.2.2.chg c5 hgF).chg (S := fun _ => False) (Chg.of_below b6) (fun h => h)
  have G6 : srB (w5.alloc (.cells #[.slice va m vc, .int .i64 0, .bool false] 36)) w5.heap.size (.slice va m vc) 0 false := heap_alloc_new w5 _
  have P6 : Pay (w5.alloc (.cells #[.slice va m vc, .int .i64 0, .bool false] 36)) va m vc ys := pay5.chg (S := fun _ => False) (Chg.of_below b6) (fun _ _ _ h => h)
  have hz5 : w2.heap.size < w5.heap.size := by have h1 := H4.out.2.2.lt; have h2 := c5.size; omega
  have hoff : Off va (SG w5.heap.size w2.heap.size) := fun b' off' e h => by
    have h1 := hvl b' off' e
    have h2 := H4.out.2.2.lt
    rcases h with h | h <;> omega
  have hg5 : w.heap.size + 1 < w5.heap.size := by have := r5.lt; exact this
  have hsz6 : w5.heap.size < (w5.alloc (.cells #[.slice va m vc, .int .i64 0, .bool false] 36)).heap.size := by simp
  have s6 := R6.c2
  have k6 := F6.c0
  have H6 : Hid _ := And.intro K6 (And.intro B6 (And.intro R6 (And.intro F6 (And.intro G6 (And.intro P6 hoff)))))
  clear K6 B6 R6 F6 G6 P6 hoff o5 r5 c5 pay5 hvl b6 C6 s4
  have d4 : (K == 4) = false := by rw [HK.out.1]; rfl
  have d7 : (K == 7) = false := by rw [HK.out.1]; rfl
  have d15 : (K == 15) = true := by rw [HK.out.1]; rfl
  have hF : rhF K ys = some ⟨K, varV ys 0, ys.drop (varN ys 0), []⟩ := by unfold rhF; rw [if_neg (by have := HK.out.1; omega), if_pos (by have := HK.out.1; omega), if_pos hy]
  rw [hF] at hRT
  simp only at hRT
  clear hF
  have V0 := varSP w5.heap.size va m vc 0 ys _ H6.out.2.2.2.2.1 H6.out.2.2.2.2.2.1 HY.out.1 (by omega) hy
  have hNb := varN_bd ys 0 hy
  have hLy := HY.out.2.1
  generalize varV ys 0 = A1 at V0 hRT hNb
  generalize varN ys 0 = N at V0 hRT hNb
  have V6 := V0
  have HV6 : Hid _ := And.intro V6 hRT
  clear V6 hRT
  go_wp2_with fail
  go_at_call 12
  refine HV6.out.1.mono ?_
  rintro e w7 ⟨rfl, r7, c7⟩
  have hzw : w.heap.size < (w5.alloc (.cells #[.slice va m vc, .int .i64 0, .bool false] 36)).heap.size := by have := H6.out.2.1.size; simp at this ⊢; omega
  have F7 := H6.out.2.2.2.1.chg c7 (by omega)
  have K7 := (c7.block w.heap.size hzw (by omega)).trans H6.out.1
  have B7 : Below w.heap.size w w7 := H6.out.2.1.trans (c7.below H6.out.2.1.size (fun k hk => by omega))
  have R7 := H6.out.2.2.1.chg c7 (by omega)
  have P7 := H6.out.2.2.2.2.2.1.chg c7 (fun b' off' e h => H6.out.2.2.2.2.2.2 b' off' e (Or.inl h))
  have f1 := F7.c1
  have ff1 := F7.fr 1
  have hz7 := c7.size
  clear V0
  have K8 : (w7.setCell ⟨w2.heap.size, 1, none⟩ (.int .i64 A1)).heap[w.heap.size]? = some zfO := (bk_other (by omega) 1 _).trans K7
  have B8 : Below w.heap.size w (w7.setCell ⟨w2.heap.size, 1, none⟩ (.int .i64 A1)) := B7.setCell (by simp; omega) _
  have R8 : srB (w7.setCell ⟨w2.heap.size, 1, none⟩ (.int .i64 A1)) (w.heap.size + 1) (.slice (some ⟨b, off, none⟩) n cap) ((Q2 + m : Nat) : Int) false := (bk_other (by omega) 1 _).trans R7
  have F8 : fB (w7.setCell ⟨w2.heap.size, 1, none⟩ (.int .i64 A1)) w2.heap.size K A1 (.slice none 0 0) (.slice none 0 0) := F7.set1 _
  have G8 : srB (w7.setCell ⟨w2.heap.size, 1, none⟩ (.int .i64 A1)) w5.heap.size (.slice va m vc) (N : Int) false := (bk_other (by omega) 1 _).trans r7
  have P8 : Pay (w7.setCell ⟨w2.heap.size, 1, none⟩ (.int .i64 A1)) va m vc ys := P7.chg (S := (· = w2.heap.size)) ((Chg.refl _ w7).set w2.heap.size 1 _ rfl) (fun b' off' e h => H6.out.2.2.2.2.2.2 b' off' e (Or.inr h))
  have hz8 : (w7.setCell ⟨w2.heap.size, 1, none⟩ (.int .i64 A1)).heap.size = w7.heap.size := by simp [World.setCell]
  have H8 : Hid _ := And.intro K8 (And.intro B8 (And.intro R8 (And.intro F8 (And.intro G8 (And.intro P8 hz8)))))
  clear K8 B8 R8 F8 G8 P8 hz8 K7 B7 R7 F7 P7 r7 c7
  have RT := restSP w5.heap.size va m vc N ys _ H8.out.2.2.2.2.1 H8.out.2.2.2.2.2.1 (fun b' off' e h => H6.out.2.2.2.2.2.2 b' off' e (Or.inl h)) (by omega) (by omega)
  have hz8 := H8.out.2.2.2.2.2.2
  go_wp2_with fail
  go_at_call 14
  refine RT.mono ?_
  rintro e w9 ⟨vd, rfl, o9, r9, c9⟩
  obtain ⟨da, dc, ed⟩ := (row_of_owns o9).form
  obtain ⟨M9, eM9⟩ : ∃ M9, M9 = (ys.drop N).length := ⟨_, rfl⟩
  rw [← eM9] at ed
  subst ed
  have hM9 : M9 ≤ m := by rw [eM9, List.length_drop]; omega
  have hz9 := c9.size
  have hbs := H8.out.2.1.size
  have K9 := (c9.block w.heap.size (by omega) (by omega)).trans H8.out.1
  have B9 : Below w.heap.size w w9 := H8.out.2.1.trans (c9.below H8.out.2.1.size (fun k hk => by omega))
  have R9 := H8.out.2.2.1.chg c9 (by omega)
  have F9 := H8.out.2.2.2.1.chg c9 (by omega)
  have f2 := F9.c2
  have ff2 := F9.fr 2
  have HLN : Hid (M9 ≤ 65536 ∧ ([] : List SSetting).length = 0) := ⟨by omega, rfl⟩
  have H9 : Hid _ := And.intro K9 (And.intro B9 (And.intro R9 (And.intro F9 (And.intro r9 (And.intro o9 (And.intro eM9 HV6.out.2))))))
  clear K9 B9 R9 F9 r9 o9 c9 eM9 RT hLy hNb
  go_upto_region 24 with fail
  have tR : (w9.setCell ⟨w2.heap.size, 2, none⟩ (.slice da M9 dc)).heap[w.heap.size]? = some zfO := (bk_other (by omega) 2 _).trans H9.out.1
  have tB : Below w.heap.size w (w9.setCell ⟨w2.heap.size, 2, none⟩ (.slice da M9 dc)) := H9.out.2.1.setCell (by simp; omega) _
  have tg : srB (w9.setCell ⟨w2.heap.size, 2, none⟩ (.slice da M9 dc)) (w.heap.size + 1) (.slice (some ⟨b, off, none⟩) n cap) ((Q2 + m : Nat) : Int) false := (bk_other (by omega) 2 _).trans H9.out.2.2.1
  have tG : srB (w9.setCell ⟨w2.heap.size, 2, none⟩ (.slice da M9 dc)) w5.heap.size (.slice va m vc) (m : Int) false := (bk_other (by omega) 2 _).trans H9.out.2.2.2.2.1
  have tF : fB (w9.setCell ⟨w2.heap.size, 2, none⟩ (.slice da M9 dc)) w2.heap.size K A1 (.slice da M9 dc) (.slice none 0 0) := H9.out.2.2.2.1.set2 _
  have l0 := tG.c0
  have l1 := tG.c1
  have l2 := tG.c2
  have m0 := tF.c0
  have m1 := tF.c1
  have m2 := tF.c2
  have m3 := tF.c3
  have hmm : ((m : Int) != (m : Int)) = false := by simp
  have HO := hokS K A1 da M9 dc (.slice none 0 0) [] (w9.setCell ⟨w2.heap.size, 2, none⟩ (.slice da M9 dc)).drew ((GOwns.nil 40 2 (w9.setCell ⟨w2.heap.size, 2, none⟩ (.slice da M9 dc)) (w5.alloc (.cells #[.slice va m vc, .int .i64 0, .bool false] 36)).heap.size)).row (by have := HLN.out; omega) (by have := HLN.out; omega)
  obtain ⟨ok, eok⟩ : ∃ ok, ok = decide (hyP K A1 M9 []) := ⟨_, rfl⟩
  rw [← eok] at HO
  have KK : Hid (∀ u, Below (w9.setCell ⟨w2.heap.size, 2, none⟩ (.slice da M9 dc)).drew.heap.size (w9.setCell ⟨w2.heap.size, 2, none⟩ (.slice da M9 dc)).drew u → u.heap[w.heap.size]? = some zfO ∧ Below w.heap.size w u ∧ srB u (w.heap.size + 1) (.slice (some ⟨b, off, none⟩) n cap) ((Q2 + m : Nat) : Int) false ∧ fB u w2.heap.size K A1 (.slice da M9 dc) (.slice none 0 0)) := fun u hu =>
    ⟨(hu.block w.heap.size (Array.getElem?_eq_some_iff.1 tR).1).trans tR, tB.trans (((below_drewN (Below.refl _ _) 1).trans hu).mono tB.size), (hu.block _ tg.lt).trans tg, (hu.block _ tF.lt).trans tF⟩
  have KG : Hid (∀ u, Below (w9.setCell ⟨w2.heap.size, 2, none⟩ (.slice da M9 dc)).drew.heap.size (w9.setCell ⟨w2.heap.size, 2, none⟩ (.slice da M9 dc)).drew u → u.cell? ⟨w5.heap.size, 0, none⟩ = some (.slice va m vc) ∧ u.cell? ⟨w5.heap.size, 1, none⟩ = some (.int .i64 (m : Int)) ∧ u.cell? ⟨w5.heap.size, 2, none⟩ = some (.bool false)) := fun u hu => by
    have q : srB u w5.heap.size (.slice va m vc) (m : Int) false := (hu.block _ tG.lt).trans tG
    exact ⟨q.c0, q.c1, q.c2⟩
  have HT : Hid _ := And.intro HO eok
  clear tR tB tg tG tF HO eok
  cases ok with
  | false =>
    have HRes : Hid _ := And.intro ((fun e => res_bad (f := ⟨K, A1, ys.drop N, []⟩) H9.out.2.2.2.2.2.2.2 (by show ¬ hyP K A1 (ys.drop N).length []; rw [← H9.out.2.2.2.2.2.2.1]; exact of_decide_eq_false e.symm)) HT.out.2) True.intro
    go_wp2_with fail
    go_region_held3 (fun w' => w'.cell? ⟨w5.heap.size, 0, none⟩ = some (.slice va m vc) ∧ w'.cell? ⟨w5.heap.size, 1, none⟩ = some (.int .i64 (m : Int)) ∧ w'.cell? ⟨w5.heap.size, 2, none⟩ = some (.bool false) ∧ w'.cell? ⟨w2.heap.size, 0, none⟩ = some (.int .i64 K) ∧ w'.cell? ⟨w2.heap.size, 1, none⟩ = some (.int .i64 A1) ∧ w'.cell? ⟨w2.heap.size, 2, none⟩ = some (.slice da M9 dc) ∧ w'.cell? ⟨w2.heap.size, 3, none⟩ = some (.slice none 0 0)) (go_keep)
      (first | (go_at_call 15; refine HT.out.1.mono ?_; rintro e wy ⟨rfl, by'⟩; obtain ⟨t0, t1, t2⟩ := KG.out wy by'; obtain ⟨u1, u2, u3, u4⟩ := KK.out wy by'; have v0 := u4.c0; have v1 := u4.c1; have v2 := u4.c2; have v3 := u4.c3; have HX : Hid _ := And.intro u1 (And.intro u2 (And.intro by' (And.intro u3 u4))); clear by' u1 u2 u3 u4))
    all_goals
      obtain ⟨z0, z1, z2, z3, y0, y1, y2, y3⟩ := z4 (HX.out.1)
      have HZ : Hid _ := And.intro (HX.out.2.1) (HX.out.1)
      go_wp2_with fail
      refine bodyPost_ret (v := .tuple #[.agg #[.int .i64 0, .int .i64 0, .slice none 0 0, .slice none 0 0], .int .i64 0, .int .i64 3]) ?_ rfl ?_
      · refine results_row_tmp2R (t := 25) rfl _ _ w.heap.size _ (fr := (0, 0)) _ _ _ rfl rfl rfl ?_ Tryd.underlying25 rfl infoHF
        exact st4_heap (w := wy) HZ.out.2
      · rw [HRes.out.1]
        exact ⟨⟨.slice none 0 0, .slice none 0 0, rfl, World.ownsRow_nil _ _ _ _, GOwns.nil _ _ _ _, fun j h => by cases h⟩, ((((HZ.out.1).setCell (by simp) _).setCell (by simp) _).setCell (by simp) _).setCell (by simp) _⟩
  | true =>
    have HRes : Hid _ := And.intro ((fun e => res_good (f := ⟨K, A1, ys.drop N, []⟩) H9.out.2.2.2.2.2.2.2 (by show hyP K A1 (ys.drop N).length []; rw [← H9.out.2.2.2.2.2.2.1]; exact of_decide_eq_true e.symm)) HT.out.2) True.intro
    go_wp2_with fail
    go_region_held3 (fun w' => w'.cell? ⟨w5.heap.size, 0, none⟩ = some (.slice va m vc) ∧ w'.cell? ⟨w5.heap.size, 1, none⟩ = some (.int .i64 (m : Int)) ∧ w'.cell? ⟨w5.heap.size, 2, none⟩ = some (.bool false) ∧ w'.cell? ⟨w2.heap.size, 0, none⟩ = some (.int .i64 K) ∧ w'.cell? ⟨w2.heap.size, 1, none⟩ = some (.int .i64 A1) ∧ w'.cell? ⟨w2.heap.size, 2, none⟩ = some (.slice da M9 dc) ∧ w'.cell? ⟨w2.heap.size, 3, none⟩ = some (.slice none 0 0)) (go_keep)
      (first | (go_at_call 15; refine HT.out.1.mono ?_; rintro e wy ⟨rfl, by'⟩; obtain ⟨t0, t1, t2⟩ := KG.out wy by'; obtain ⟨u1, u2, u3, u4⟩ := KK.out wy by'; have v0 := u4.c0; have v1 := u4.c1; have v2 := u4.c2; have v3 := u4.c3; have HX : Hid _ := And.intro u1 (And.intro u2 (And.intro by' (And.intro u3 u4))); clear by' u1 u2 u3 u4))
    all_goals
      obtain ⟨z0, z1, z2, z3, y0, y1, y2, y3⟩ := z4 HX.out.1
      have q1 := HX.out.2.2.2.1.c1
      have n0 := HX.out.2.2.2.2.c0
      have n1 := HX.out.2.2.2.2.c1
      have n2 := HX.out.2.2.2.2.c2
      have n3 := HX.out.2.2.2.2.c3
      go_wp2_with fail
      go_region
      all_goals
        go_wp2_with fail
        refine bodyPost_ret (v := .tuple #[.agg #[.int .i64 K, .int .i64 A1, .slice da M9 dc, (.slice none 0 0)], .int .i64 ((Q2 + m : Nat) : Int), .int .i64 0]) ?_ rfl ?_
        · refine results_row_tmp2R (t := 25) rfl _ _ w.heap.size _ (fr := (0, 0)) _ _ _ rfl rfl rfl ?_ Tryd.underlying25 rfl infoHF
          exact st4_heap (w := wy.drew) HX.out.1
        · rw [HRes.out.1]
          have bxy : Below (w9.setCell ⟨w2.heap.size, 2, none⟩ (.slice da M9 dc)).heap.size (w9.setCell ⟨w2.heap.size, 2, none⟩ (.slice da M9 dc)) wy.drew := below_drewN ((below_drewN (Below.refl (w9.setCell ⟨w2.heap.size, 2, none⟩ (.slice da M9 dc)).heap.size (w9.setCell ⟨w2.heap.size, 2, none⟩ (.slice da M9 dc))) 1).trans HX.out.2.2.1) 1
          refine ⟨⟨_, _, rfl, ?_, ?_, fun j _ e => by cases e⟩, (((Below.setCell (below_drewN HX.out.2.1 1) (by simp) _).setCell (by simp) _).setCell (by simp) _).setCell (by simp) _⟩
          · have oD := owns_below (show (w9.setCell ⟨w2.heap.size, 2, none⟩ (.slice da M9 dc)).ownsRow (w5.alloc (.cells #[.slice va m vc, .int .i64 0, .bool false] 36)).heap.size 5 1 (.slice da M9 dc) (ys.drop N).length ((ys.drop N).map (Value.int .u8)) from own_setH (owns_mono H9.out.2.2.2.2.2.1 (by omega)) (by omega)) bxy
            exact owns_mono (own_setH (own_setH (own_setH (own_setH oD (by omega)) (by omega)) (by omega)) (by omega)) (by omega)
          · have oS := ((GOwns.nil 40 2 (w9.setCell ⟨w2.heap.size, 2, none⟩ (.slice da M9 dc)) (w5.alloc (.cells #[.slice va m vc, .int .i64 0, .bool false] 36)).heap.size)).below bxy
            exact (gown_setH (gown_setH (gown_setH (gown_setH oS (by omega)) (by omega)) (by omega)) (by omega)).mono (by omega)
set_option maxRecDepth 20000 in
set_option maxHeartbeats 4000000 in
theorem rhS_15n (b off n cap p : Nat) (xs : List Int) (w : World) (hl : Lies w b off n cap xs) (hB : Bytes xs) (hn : n ≤ 65536) (hp : p ≤ n) (hv : varOK xs p) (hv2 : varOK xs (varN xs p)) (m Q2 : Nat) (em : varV xs (varN xs p) = (m : Int)) (eQ2 : varN xs (varN xs p) = Q2) (hbig : ¬ 16384 < m) (hfit : Q2 + m ≤ n) (hk : varV xs p = 15) (hy : ¬ varOK (sub xs Q2 m) 0) :
    Calls Tryd.prog 4 #[.slice (some ⟨b, off, none⟩) n cap, .int .i64 (p : Int)] w fun e w' => RhA' w.heap.size e w' (rhV (rhT xs p)) ∧ Below w.heap.size w w' := by
  have hRT := res_no xs p m Q2 (varV xs p) (sub xs Q2 m) hv hv2 em eQ2 hbig (by have := hl.len; omega) rfl rfl
  obtain ⟨h1, h2, h3⟩ := rsW_facts w (p : Int) (some ⟨b, off, none⟩) n cap
  have hbl := hl.lt
  have V1 := variableS_ok (w.heap.size + 1) b off n cap p xs _ h2 (hl.below h3) hB hn hv
  have hlen := hl.len
  have hb1 := varN_bd xs p hv
  have LI : ∀ u, Chg (· = w.heap.size + 1) (rsW w (p : Int) (some ⟨b, off, none⟩) n cap) u → Lies u b off n cap xs := fun u hc => (hl.below h3).chg hc (by omega)
  have hd1 : ¬ (65536 : Int) < (n : Int) := by omega
  have hd2 : ¬ (p : Int) < 0 := by omega
  have hd3 : ¬ (n : Int) < (p : Int) := by omega
  obtain ⟨K, eK⟩ : ∃ K, K = varV xs p := ⟨_, rfl⟩
  rw [← eK] at V1
  have HH : Hid _ := And.intro V1 (And.intro LI (And.intro hB (And.intro eK (And.intro hv hb1))))
  clear V1 h1 h2 h3 hl hB eK LI hv
  rw [← HH.out.2.2.2.1] at hRT hk
  have HK : Hid _ := And.intro hk True.intro
  clear hk
  have hbg : ¬ (16384 : Int) < (m : Int) := by omega
  go_enter Tryd.func4, Tryd.ntmps4
  go_wp2_with fail
  go_at_call 12
  refine HH.out.1.mono ?_
  rintro e w2 ⟨rfl, r2, c2⟩
  have C3 : Chg (· = w.heap.size + 1) (rsW w (p : Int) (some ⟨b, off, none⟩) n cap) (w2.alloc (.cells #[.int .i64 K, .int .i64 0, .slice none 0 0, .slice none 0 0] 25)) := c2.trans (Chg.of_below ((Below.refl _ _).alloc (Nat.le_refl _) _))
  have R3 : srB (w2.alloc (.cells #[.int .i64 K, .int .i64 0, .slice none 0 0, .slice none 0 0] 25)) (w.heap.size + 1) (.slice (some ⟨b, off, none⟩) n cap) ((varN xs p : Nat) : Int) false := r2.below ((Below.refl _ _).alloc (Nat.le_refl _) _)
  have F3 : fB (w2.alloc (.cells #[.int .i64 K, .int .i64 0, .slice none 0 0, .slice none 0 0] 25)) w2.heap.size K 0 (.slice none 0 0) (.slice none 0 0) := heap_alloc_new w2 _
  have hgF : w2.heap.size ≠ w.heap.size + 1 := by have := r2.lt; omega
  have hzF : w.heap.size + 2 ≤ w2.heap.size := by have := r2.lt; omega
  have H3 : Hid _ := And.intro C3 (And.intro R3 F3)
  clear C3 R3 F3 r2 c2
  have V2 := variableS_ok (w.heap.size + 1) b off n cap (varN xs p) xs _ H3.out.2.1 (HH.out.2.1 _ H3.out.1) HH.out.2.2.1 hn hv2
  rw [em, eQ2] at V2
  go_wp2_with fail
  go_at_call 12
  refine V2.mono ?_
  rintro e w4 ⟨rfl, r4, c4⟩
  have s4 := r4.c2
  have C4 := H3.out.1.trans c4
  have T4 := takeS_ok (w.heap.size + 1) b off n cap Q2 m xs w4 r4 (HH.out.2.1 _ C4) (by omega) hn hfit
  have F4 := H3.out.2.2.chg c4 hgF
  have H4 : Hid _ := And.intro C4 (And.intro T4 F4)
  have hys := sub_bytes HH.out.2.2.1 Q2 m
  have hyl : (sub xs Q2 m).length = m := sub_len xs Q2 m (by omega)
  have hKe : K = varV xs p := HH.out.2.2.2.1
  obtain ⟨ys, eys⟩ : ∃ ys, ys = sub xs Q2 m := ⟨_, rfl⟩
  rw [← eys] at hys hyl H4 hRT hy
  have HY : Hid _ := And.intro hys (And.intro hyl (And.intro hKe eys))
  clear C4 V2 c4 r4 em eQ2 T4 F4 hys hyl hKe eys
  go_wp2_with fail
  go_at_call 13
  refine H4.out.2.1.mono ?_
  rintro e w5 ⟨v, rfl, o5, r5, c5⟩
  obtain ⟨va, vc, rfl, pay5, hvl⟩ := pay_of_owns o5
  have b6 : Below w5.heap.size w5 (w5.alloc (.cells #[.slice va m vc, .int .i64 0, .bool false] 36)) := (Below.refl _ _).alloc (Nat.le_refl _) _
  have C6 : Chg (· = w.heap.size + 1) (rsW w (p : Int) (some ⟨b, off, none⟩) n cap) (w5.alloc (.cells #[.slice va m vc, .int .i64 0, .bool false] 36)) := (H4.out.1.trans c5).trans (Chg.of_below b6)
  obtain ⟨K6, B6⟩ := rs_R C6
  have R6 := r5.below b6
  have F6 : fB (w5.alloc (.cells #[.slice va m vc, .int .i64 0, .bool false] 36)) w2.heap.size K 0 (.slice none 0 0) (.slice none 0 0) := (H4.out.2.2.chg c5 hgF).chg (S := fun _ => False) (Chg.of_below b6) (fun h => h)
  have G6 : srB (w5.alloc (.cells #[.slice va m vc, .int .i64 0, .bool false] 36)) w5.heap.size (.slice va m vc) 0 false := heap_alloc_new w5 _
  have P6 : Pay (w5.alloc (.cells #[.slice va m vc, .int .i64 0, .bool false] 36)) va m vc ys := pay5.chg (S := fun _ => False) (Chg.of_below b6) (fun _ _ _ h => h)
  have hz5 : w2.heap.size < w5.heap.size := by have h1 := H4.out.2.2.lt; have h2 := c5.size; omega
  have hoff : Off va (SG w5.heap.size w2.heap.size) := fun b' off' e h => by
    have h1 := hvl b' off' e
    have h2 := H4.out.2.2.lt
    rcases h with h | h <;> omega
  have hg5 : w.heap.size + 1 < w5.heap.size := by have := r5.lt; exact this
  have hsz6 : w5.heap.size < (w5.alloc (.cells #[.slice va m vc, .int .i64 0, .bool false] 36)).heap.size := by simp
  have s6 := R6.c2
  have k6 := F6.c0
  have H6 : Hid _ := And.intro K6 (And.intro B6 (And.intro R6 (And.intro F6 (And.intro G6 (And.intro P6 hoff)))))
  clear K6 B6 R6 F6 G6 P6 hoff o5 r5 c5 pay5 hvl b6 C6 s4
  have d4 : (K == 4) = false := by rw [HK.out.1]; rfl
  have d7 : (K == 7) = false := by rw [HK.out.1]; rfl
  have d15 : (K == 15) = true := by rw [HK.out.1]; rfl
  have hF : rhF K ys = none := by unfold rhF; rw [if_neg (by have := HK.out.1; omega), if_pos (by have := HK.out.1; omega), if_neg hy]
  rw [hF] at hRT
  simp only at hRT
  clear hF
  have V6 := varSPn w5.heap.size va m vc 0 ys _ H6.out.2.2.2.2.1 H6.out.2.2.2.2.2.1 HY.out.1 (by omega) (by omega) hy
  have HV6 : Hid _ := And.intro V6 hRT
  clear V6 hRT
  go_wp2_with fail
  go_at_call 12
  refine HV6.out.1.mono ?_
  rintro e w7 ⟨rfl, r7, c7⟩
  have hzw : w.heap.size < (w5.alloc (.cells #[.slice va m vc, .int .i64 0, .bool false] 36)).heap.size := by have := H6.out.2.1.size; simp at this ⊢; omega
  have F7 := H6.out.2.2.2.1.chg c7 (by omega)
  have K7 := (c7.block w.heap.size hzw (by omega)).trans H6.out.1
  have B7 : Below w.heap.size w w7 := H6.out.2.1.trans (c7.below H6.out.2.1.size (fun k hk => by omega))
  have R7 := H6.out.2.2.1.chg c7 (by omega)
  have P7 := H6.out.2.2.2.2.2.1.chg c7 (fun b' off' e h => H6.out.2.2.2.2.2.2 b' off' e (Or.inl h))
  have f1 := F7.c1
  have ff1 := F7.fr 1
  have hz7 := c7.size
  have K8 : (w7.setCell ⟨w2.heap.size, 1, none⟩ (.int .i64 0)).heap[w.heap.size]? = some zfO := (bk_other (by omega) 1 _).trans K7
  have B8 : Below w.heap.size w (w7.setCell ⟨w2.heap.size, 1, none⟩ (.int .i64 0)) := B7.setCell (by simp; omega) _
  have R8 : srB (w7.setCell ⟨w2.heap.size, 1, none⟩ (.int .i64 0)) (w.heap.size + 1) (.slice (some ⟨b, off, none⟩) n cap) ((Q2 + m : Nat) : Int) false := (bk_other (by omega) 1 _).trans R7
  have F8 : fB (w7.setCell ⟨w2.heap.size, 1, none⟩ (.int .i64 0)) w2.heap.size K 0 (.slice none 0 0) (.slice none 0 0) := F7.set1 _
  have G8 : srB (w7.setCell ⟨w2.heap.size, 1, none⟩ (.int .i64 0)) w5.heap.size (.slice va m vc) 0 true := (bk_other (by omega) 1 _).trans r7
  have P8 : Pay (w7.setCell ⟨w2.heap.size, 1, none⟩ (.int .i64 0)) va m vc ys := P7.chg (S := (· = w2.heap.size)) ((Chg.refl _ w7).set w2.heap.size 1 _ rfl) (fun b' off' e h => H6.out.2.2.2.2.2.2 b' off' e (Or.inr h))
  have hz8 : (w7.setCell ⟨w2.heap.size, 1, none⟩ (.int .i64 0)).heap.size = w7.heap.size := by simp [World.setCell]
  have H8 : Hid _ := And.intro K8 (And.intro B8 (And.intro R8 (And.intro F8 (And.intro G8 (And.intro P8 hz8)))))
  clear K8 B8 R8 F8 G8 P8 hz8 K7 B7 R7 F7 P7 r7 c7
  have RT := restS_sh w5.heap.size va m vc 0 _ H8.out.2.2.2.2.1 ⟨by omega, by omega⟩ (by omega)
  have hz8 := H8.out.2.2.2.2.2.2
  go_wp2_with fail
  go_at_call 14
  refine RT.mono ?_
  rintro e w9 ⟨q9, rfl, r9, c9⟩
  have hz9 := c9.size
  have hbs := H8.out.2.1.size
  have K9 := (c9.block w.heap.size (by omega) (by omega)).trans H8.out.1
  have B9 : Below w.heap.size w w9 := H8.out.2.1.trans (c9.below H8.out.2.1.size (fun k hk => by omega))
  have R9 := H8.out.2.2.1.chg c9 (by omega)
  have F9 := H8.out.2.2.2.1.chg c9 (by omega)
  have f2 := F9.c2
  have ff2 := F9.fr 2
  have HRes : Hid (rhV (rhT xs p) = (zHF, 0, 3)) := by show rhV (rhT xs p) = (zHF, 0, 3); rw [HV6.out.2]; rfl
  have H9 : Hid _ := And.intro K9 (And.intro B9 (And.intro R9 (And.intro F9 r9)))
  clear K9 B9 R9 F9 r9 c9 RT
  go_upto_region 24 with fail
  have tR : (w9.setCell ⟨w2.heap.size, 2, none⟩ (.slice (some ⟨q9, 0, none⟩) 0 0)).heap[w.heap.size]? = some zfO := (bk_other (by omega) 2 _).trans H9.out.1
  have tB : Below w.heap.size w (w9.setCell ⟨w2.heap.size, 2, none⟩ (.slice (some ⟨q9, 0, none⟩) 0 0)) := H9.out.2.1.setCell (by simp; omega) _
  have tg : srB (w9.setCell ⟨w2.heap.size, 2, none⟩ (.slice (some ⟨q9, 0, none⟩) 0 0)) (w.heap.size + 1) (.slice (some ⟨b, off, none⟩) n cap) ((Q2 + m : Nat) : Int) false := (bk_other (by omega) 2 _).trans H9.out.2.2.1
  have tG : srB (w9.setCell ⟨w2.heap.size, 2, none⟩ (.slice (some ⟨q9, 0, none⟩) 0 0)) w5.heap.size (.slice va m vc) 0 true := (bk_other (by omega) 2 _).trans H9.out.2.2.2.2
  have tF : fB (w9.setCell ⟨w2.heap.size, 2, none⟩ (.slice (some ⟨q9, 0, none⟩) 0 0)) w2.heap.size K 0 (.slice (some ⟨q9, 0, none⟩) 0 0) (.slice none 0 0) := H9.out.2.2.2.1.set2 _
  have l2 := tG.c2
  have HT : Hid _ := And.intro tR tB
  clear tR tB tg tG tF
  go_wp2_with fail
  go_quiet (fail)
  obtain ⟨z0, z1, z2, z3, y0, y1, y2, y3⟩ := z4 (HT.out.1)
  have HZ : Hid _ := And.intro (HT.out.2) (HT.out.1)
  go_wp2_with fail
  refine bodyPost_ret (v := .tuple #[.agg #[.int .i64 0, .int .i64 0, .slice none 0 0, .slice none 0 0], .int .i64 0, .int .i64 3]) ?_ rfl ?_
  · refine results_row_tmp2R (t := 25) rfl _ _ w.heap.size _ (fr := (0, 0)) _ _ _ rfl rfl rfl ?_ Tryd.underlying25 rfl infoHF
    exact st4_heap (w := (w9.setCell ⟨w2.heap.size, 2, none⟩ (.slice (some ⟨q9, 0, none⟩) 0 0)).drewN nq) HZ.out.2
  · rw [HRes.out]
    exact ⟨⟨.slice none 0 0, .slice none 0 0, rfl, World.ownsRow_nil _ _ _ _, GOwns.nil _ _ _ _, fun j h => by cases h⟩, ((((below_drewN HZ.out.1 nq).setCell (by simp) _).setCell (by simp) _).setCell (by simp) _).setCell (by simp) _⟩
set_option maxRecDepth 20000 in
set_option maxHeartbeats 4000000 in
theorem rhS_7n (b off n cap p : Nat) (xs : List Int) (w : World) (hl : Lies w b off n cap xs) (hB : Bytes xs) (hn : n ≤ 65536) (hp : p ≤ n) (hv : varOK xs p) (hv2 : varOK xs (varN xs p)) (m Q2 : Nat) (em : varV xs (varN xs p) = (m : Int)) (eQ2 : varN xs (varN xs p) = Q2) (hbig : ¬ 16384 < m) (hfit : Q2 + m ≤ n) (hk : varV xs p = 7) (hy : ¬ varOK (sub xs Q2 m) 0) :
    Calls Tryd.prog 4 #[.slice (some ⟨b, off, none⟩) n cap, .int .i64 (p : Int)] w fun e w' => RhA' w.heap.size e w' (rhV (rhT xs p)) ∧ Below w.heap.size w w' := by
  have hRT := res_no xs p m Q2 (varV xs p) (sub xs Q2 m) hv hv2 em eQ2 hbig (by have := hl.len; omega) rfl rfl
  obtain ⟨h1, h2, h3⟩ := rsW_facts w (p : Int) (some ⟨b, off, none⟩) n cap
  have hbl := hl.lt
  have V1 := variableS_ok (w.heap.size + 1) b off n cap p xs _ h2 (hl.below h3) hB hn hv
  have hlen := hl.len
  have hb1 := varN_bd xs p hv
  have LI : ∀ u, Chg (· = w.heap.size + 1) (rsW w (p : Int) (some ⟨b, off, none⟩) n cap) u → Lies u b off n cap xs := fun u hc => (hl.below h3).chg hc (by omega)
  have hd1 : ¬ (65536 : Int) < (n : Int) := by omega
  have hd2 : ¬ (p : Int) < 0 := by omega
  have hd3 : ¬ (n : Int) < (p : Int) := by omega
  obtain ⟨K, eK⟩ : ∃ K, K = varV xs p := ⟨_, rfl⟩
  rw [← eK] at V1
  have HH : Hid _ := And.intro V1 (And.intro LI (And.intro hB (And.intro eK (And.intro hv hb1))))
  clear V1 h1 h2 h3 hl hB eK LI hv
  rw [← HH.out.2.2.2.1] at hRT hk
  have HK : Hid _ := And.intro hk True.intro
  clear hk
  have hbg : ¬ (16384 : Int) < (m : Int) := by omega
  go_enter Tryd.func4, Tryd.ntmps4
  go_wp2_with fail
  go_at_call 12
  refine HH.out.1.mono ?_
  rintro e w2 ⟨rfl, r2, c2⟩
  have C3 : Chg (· = w.heap.size + 1) (rsW w (p : Int) (some ⟨b, off, none⟩) n cap) (w2.alloc (.cells #[.int .i64 K, .int .i64 0, .slice none 0 0, .slice none 0 0] 25)) := c2.trans (Chg.of_below ((Below.refl _ _).alloc (Nat.le_refl _) _))
  have R3 : srB (w2.alloc (.cells #[.int .i64 K, .int .i64 0, .slice none 0 0, .slice none 0 0] 25)) (w.heap.size + 1) (.slice (some ⟨b, off, none⟩) n cap) ((varN xs p : Nat) : Int) false := r2.below ((Below.refl _ _).alloc (Nat.le_refl _) _)
  have F3 : fB (w2.alloc (.cells #[.int .i64 K, .int .i64 0, .slice none 0 0, .slice none 0 0] 25)) w2.heap.size K 0 (.slice none 0 0) (.slice none 0 0) := heap_alloc_new w2 _
  have hgF : w2.heap.size ≠ w.heap.size + 1 := by have := r2.lt; omega
  have hzF : w.heap.size + 2 ≤ w2.heap.size := by have := r2.lt; omega
  have H3 : Hid _ := And.intro C3 (And.intro R3 F3)
  clear C3 R3 F3 r2 c2
  have V2 := variableS_ok (w.heap.size + 1) b off n cap (varN xs p) xs _ H3.out.2.1 (HH.out.2.1 _ H3.out.1) HH.out.2.2.1 hn hv2
  rw [em, eQ2] at V2
  go_wp2_with fail
  go_at_call 12
  refine V2.mono ?_
  rintro e w4 ⟨rfl, r4, c4⟩
  have s4 := r4.c2
  have C4 := H3.out.1.trans c4
  have T4 := takeS_ok (w.heap.size + 1) b off n cap Q2 m xs w4 r4 (HH.out.2.1 _ C4) (by omega) hn hfit
  have F4 := H3.out.2.2.chg c4 hgF
  have H4 : Hid _ := And.intro C4 (And.intro T4 F4)
  have hys := sub_bytes HH.out.2.2.1 Q2 m
  have hyl : (sub xs Q2 m).length = m := sub_len xs Q2 m (by omega)
  have hKe : K = varV xs p := HH.out.2.2.2.1
  obtain ⟨ys, eys⟩ : ∃ ys, ys = sub xs Q2 m := ⟨_, rfl⟩
  rw [← eys] at hys hyl H4 hRT hy
  have HY : Hid _ := And.intro hys (And.intro hyl (And.intro hKe eys))
  clear C4 V2 c4 r4 em eQ2 T4 F4 hys hyl hKe eys
  go_wp2_with fail
  go_at_call 13
  refine H4.out.2.1.mono ?_
  rintro e w5 ⟨v, rfl, o5, r5, c5⟩
  obtain ⟨va, vc, rfl, pay5, hvl⟩ := pay_of_owns o5
  have b6 : Below w5.heap.size w5 (w5.alloc (.cells #[.slice va m vc, .int .i64 0, .bool false] 36)) := (Below.refl _ _).alloc (Nat.le_refl _) _
  have C6 : Chg (· = w.heap.size + 1) (rsW w (p : Int) (some ⟨b, off, none⟩) n cap) (w5.alloc (.cells #[.slice va m vc, .int .i64 0, .bool false] 36)) := (H4.out.1.trans c5).trans (Chg.of_below b6)
  obtain ⟨K6, B6⟩ := rs_R C6
  have R6 := r5.below b6
  have F6 : fB (w5.alloc (.cells #[.slice va m vc, .int .i64 0, .bool false] 36)) w2.heap.size K 0 (.slice none 0 0) (.slice none 0 0) := (H4.out.2.2.chg c5 hgF).chg (S := fun _ => False) (Chg.of_below b6) (fun h => h)
  have G6 : srB (w5.alloc (.cells #[.slice va m vc, .int .i64 0, .bool false] 36)) w5.heap.size (.slice va m vc) 0 false := heap_alloc_new w5 _
  have P6 : Pay (w5.alloc (.cells #[.slice va m vc, .int .i64 0, .bool false] 36)) va m vc ys := pay5.chg (S := fun _ => False) (Chg.of_below b6) (fun _ _ _ h => h)
  have hz5 : w2.heap.size < w5.heap.size := by have h1 := H4.out.2.2.lt; have h2 := c5.size; omega
  have hoff : Off va (SG w5.heap.size w2.heap.size) := fun b' off' e h => by
    have h1 := hvl b' off' e
    have h2 := H4.out.2.2.lt
    rcases h with h | h <;> omega
  have hg5 : w.heap.size + 1 < w5.heap.size := by have := r5.lt; exact this
  have hsz6 : w5.heap.size < (w5.alloc (.cells #[.slice va m vc, .int .i64 0, .bool false] 36)).heap.size := by simp
  have s6 := R6.c2
  have k6 := F6.c0
  have H6 : Hid _ := And.intro K6 (And.intro B6 (And.intro R6 (And.intro F6 (And.intro G6 (And.intro P6 hoff)))))
  clear K6 B6 R6 F6 G6 P6 hoff o5 r5 c5 pay5 hvl b6 C6 s4
  have d4 : (K == 4) = false := by rw [HK.out.1]; rfl
  have d7 : (K == 7) = true := by rw [HK.out.1]; rfl
  have d15 : (K == 15) = false := by rw [HK.out.1]; rfl
  have hF : rhF K ys = none := by unfold rhF; rw [if_neg (by have := HK.out.1; omega), if_pos (by have := HK.out.1; omega), if_neg hy]
  rw [hF] at hRT
  simp only at hRT
  clear hF
  have V6 := varSPn w5.heap.size va m vc 0 ys _ H6.out.2.2.2.2.1 H6.out.2.2.2.2.2.1 HY.out.1 (by omega) (by omega) hy
  have HV6 : Hid _ := And.intro V6 hRT
  clear V6 hRT
  go_wp2_with fail
  go_at_call 12
  refine HV6.out.1.mono ?_
  rintro e w7 ⟨rfl, r7, c7⟩
  have hzw : w.heap.size < (w5.alloc (.cells #[.slice va m vc, .int .i64 0, .bool false] 36)).heap.size := by have := H6.out.2.1.size; simp at this ⊢; omega
  have F7 := H6.out.2.2.2.1.chg c7 (by omega)
  have K7 := (c7.block w.heap.size hzw (by omega)).trans H6.out.1
  have B7 : Below w.heap.size w w7 := H6.out.2.1.trans (c7.below H6.out.2.1.size (fun k hk => by omega))
  have R7 := H6.out.2.2.1.chg c7 (by omega)
  have P7 := H6.out.2.2.2.2.2.1.chg c7 (fun b' off' e h => H6.out.2.2.2.2.2.2 b' off' e (Or.inl h))
  have f1 := F7.c1
  have ff1 := F7.fr 1
  have hz7 := c7.size
  have K8 : (w7.setCell ⟨w2.heap.size, 1, none⟩ (.int .i64 0)).heap[w.heap.size]? = some zfO := (bk_other (by omega) 1 _).trans K7
  have B8 : Below w.heap.size w (w7.setCell ⟨w2.heap.size, 1, none⟩ (.int .i64 0)) := B7.setCell (by simp; omega) _
  have R8 : srB (w7.setCell ⟨w2.heap.size, 1, none⟩ (.int .i64 0)) (w.heap.size + 1) (.slice (some ⟨b, off, none⟩) n cap) ((Q2 + m : Nat) : Int) false := (bk_other (by omega) 1 _).trans R7
  have F8 : fB (w7.setCell ⟨w2.heap.size, 1, none⟩ (.int .i64 0)) w2.heap.size K 0 (.slice none 0 0) (.slice none 0 0) := F7.set1 _
  have G8 : srB (w7.setCell ⟨w2.heap.size, 1, none⟩ (.int .i64 0)) w5.heap.size (.slice va m vc) 0 true := (bk_other (by omega) 1 _).trans r7
  have P8 : Pay (w7.setCell ⟨w2.heap.size, 1, none⟩ (.int .i64 0)) va m vc ys := P7.chg (S := (· = w2.heap.size)) ((Chg.refl _ w7).set w2.heap.size 1 _ rfl) (fun b' off' e h => H6.out.2.2.2.2.2.2 b' off' e (Or.inr h))
  have hz8 : (w7.setCell ⟨w2.heap.size, 1, none⟩ (.int .i64 0)).heap.size = w7.heap.size := by simp [World.setCell]
  have H8 : Hid _ := And.intro K8 (And.intro B8 (And.intro R8 (And.intro F8 (And.intro G8 (And.intro P8 hz8)))))
  clear K8 B8 R8 F8 G8 P8 hz8 K7 B7 R7 F7 P7 r7 c7
  have HRes : Hid (rhV (rhT xs p) = (zHF, 0, 3)) := by show rhV (rhT xs p) = (zHF, 0, 3); rw [HV6.out.2]; rfl
  go_upto_region 24 with fail
  have tR : (w7.setCell ⟨w2.heap.size, 1, none⟩ (.int .i64 0)).heap[w.heap.size]? = some zfO := H8.out.1
  have tB : Below w.heap.size w (w7.setCell ⟨w2.heap.size, 1, none⟩ (.int .i64 0)) := H8.out.2.1
  have tg : srB (w7.setCell ⟨w2.heap.size, 1, none⟩ (.int .i64 0)) (w.heap.size + 1) (.slice (some ⟨b, off, none⟩) n cap) ((Q2 + m : Nat) : Int) false := H8.out.2.2.1
  have tG : srB (w7.setCell ⟨w2.heap.size, 1, none⟩ (.int .i64 0)) w5.heap.size (.slice va m vc) 0 true := H8.out.2.2.2.2.1
  have tF : fB (w7.setCell ⟨w2.heap.size, 1, none⟩ (.int .i64 0)) w2.heap.size K 0 (.slice none 0 0) (.slice none 0 0) := H8.out.2.2.2.1
  have l2 := tG.c2
  have HT : Hid _ := And.intro tR tB
  clear tR tB tg tG tF
  go_wp2_with fail
  go_quiet (fail)
  obtain ⟨z0, z1, z2, z3, y0, y1, y2, y3⟩ := z4 (HT.out.1)
  have HZ : Hid _ := And.intro (HT.out.2) (HT.out.1)
  go_wp2_with fail
  refine bodyPost_ret (v := .tuple #[.agg #[.int .i64 0, .int .i64 0, .slice none 0 0, .slice none 0 0], .int .i64 0, .int .i64 3]) ?_ rfl ?_
  · refine results_row_tmp2R (t := 25) rfl _ _ w.heap.size _ (fr := (0, 0)) _ _ _ rfl rfl rfl ?_ Tryd.underlying25 rfl infoHF
    exact st4_heap (w := (w7.setCell ⟨w2.heap.size, 1, none⟩ (.int .i64 0)).drewN nq) HZ.out.2
  · rw [HRes.out]
    exact ⟨⟨.slice none 0 0, .slice none 0 0, rfl, World.ownsRow_nil _ _ _ _, GOwns.nil _ _ _ _, fun j h => by cases h⟩, ((((below_drewN HZ.out.1 nq).setCell (by simp) _).setCell (by simp) _).setCell (by simp) _).setCell (by simp) _⟩
set_option maxRecDepth 20000 in
set_option maxHeartbeats 4000000 in
theorem rhS_7b (b off n cap p : Nat) (xs : List Int) (w : World) (hl : Lies w b off n cap xs) (hB : Bytes xs) (hn : n ≤ 65536) (hp : p ≤ n) (hv : varOK xs p) (hv2 : varOK xs (varN xs p)) (m Q2 : Nat) (em : varV xs (varN xs p) = (m : Int)) (eQ2 : varN xs (varN xs p) = Q2) (hbig : ¬ 16384 < m) (hfit : Q2 + m ≤ n) (hk : varV xs p = 7) (hy : varOK (sub xs Q2 m) 0) (hNm : varN (sub xs Q2 m) 0 ≠ m) :
    Calls Tryd.prog 4 #[.slice (some ⟨b, off, none⟩) n cap, .int .i64 (p : Int)] w fun e w' => RhA' w.heap.size e w' (rhV (rhT xs p)) ∧ Below w.heap.size w w' := by
  have hRT := res_no xs p m Q2 (varV xs p) (sub xs Q2 m) hv hv2 em eQ2 hbig (by have := hl.len; omega) rfl rfl
  obtain ⟨h1, h2, h3⟩ := rsW_facts w (p : Int) (some ⟨b, off, none⟩) n cap
  have hbl := hl.lt
  have V1 := variableS_ok (w.heap.size + 1) b off n cap p xs _ h2 (hl.below h3) hB hn hv
  have hlen := hl.len
  have hb1 := varN_bd xs p hv
  have LI : ∀ u, Chg (· = w.heap.size + 1) (rsW w (p : Int) (some ⟨b, off, none⟩) n cap) u → Lies u b off n cap xs := fun u hc => (hl.below h3).chg hc (by omega)
  have hd1 : ¬ (65536 : Int) < (n : Int) := by omega
  have hd2 : ¬ (p : Int) < 0 := by omega
  have hd3 : ¬ (n : Int) < (p : Int) := by omega
  obtain ⟨K, eK⟩ : ∃ K, K = varV xs p := ⟨_, rfl⟩
  rw [← eK] at V1
  have HH : Hid _ := And.intro V1 (And.intro LI (And.intro hB (And.intro eK (And.intro hv hb1))))
  clear V1 h1 h2 h3 hl hB eK LI hv
  rw [← HH.out.2.2.2.1] at hRT hk
  have HK : Hid _ := And.intro hk True.intro
  clear hk
  have hbg : ¬ (16384 : Int) < (m : Int) := by omega
  go_enter Tryd.func4, Tryd.ntmps4
  go_wp2_with fail
  go_at_call 12
  refine HH.out.1.mono ?_
  rintro e w2 ⟨rfl, r2, c2⟩
  have C3 : Chg (· = w.heap.size + 1) (rsW w (p : Int) (some ⟨b, off, none⟩) n cap) (w2.alloc (.cells #[.int .i64 K, .int .i64 0, .slice none 0 0, .slice none 0 0] 25)) := c2.trans (Chg.of_below ((Below.refl _ _).alloc (Nat.le_refl _) _))
  have R3 : srB (w2.alloc (.cells #[.int .i64 K, .int .i64 0, .slice none 0 0, .slice none 0 0] 25)) (w.heap.size + 1) (.slice (some ⟨b, off, none⟩) n cap) ((varN xs p : Nat) : Int) false := r2.below ((Below.refl _ _).alloc (Nat.le_refl _) _)
  have F3 : fB (w2.alloc (.cells #[.int .i64 K, .int .i64 0, .slice none 0 0, .slice none 0 0] 25)) w2.heap.size K 0 (.slice none 0 0) (.slice none 0 0) := heap_alloc_new w2 _
  have hgF : w2.heap.size ≠ w.heap.size + 1 := by have := r2.lt; omega
  have hzF : w.heap.size + 2 ≤ w2.heap.size := by have := r2.lt; omega
  have H3 : Hid _ := And.intro C3 (And.intro R3 F3)
  clear C3 R3 F3 r2 c2
  have V2 := variableS_ok (w.heap.size + 1) b off n cap (varN xs p) xs _ H3.out.2.1 (HH.out.2.1 _ H3.out.1) HH.out.2.2.1 hn hv2
  rw [em, eQ2] at V2
  go_wp2_with fail
  go_at_call 12
  refine V2.mono ?_
  rintro e w4 ⟨rfl, r4, c4⟩
  have s4 := r4.c2
  have C4 := H3.out.1.trans c4
  have T4 := takeS_ok (w.heap.size + 1) b off n cap Q2 m xs w4 r4 (HH.out.2.1 _ C4) (by omega) hn hfit
  have F4 := H3.out.2.2.chg c4 hgF
  have H4 : Hid _ := And.intro C4 (And.intro T4 F4)
  have hys := sub_bytes HH.out.2.2.1 Q2 m
  have hyl : (sub xs Q2 m).length = m := sub_len xs Q2 m (by omega)
  have hKe : K = varV xs p := HH.out.2.2.2.1
  obtain ⟨ys, eys⟩ : ∃ ys, ys = sub xs Q2 m := ⟨_, rfl⟩
  rw [← eys] at hys hyl H4 hRT hy hNm
  have HY : Hid _ := And.intro hys (And.intro hyl (And.intro hKe eys))
  clear C4 V2 c4 r4 em eQ2 T4 F4 hys hyl hKe eys
  go_wp2_with fail
  go_at_call 13
  refine H4.out.2.1.mono ?_
  rintro e w5 ⟨v, rfl, o5, r5, c5⟩
  obtain ⟨va, vc, rfl, pay5, hvl⟩ := pay_of_owns o5
  have b6 : Below w5.heap.size w5 (w5.alloc (.cells #[.slice va m vc, .int .i64 0, .bool false] 36)) := (Below.refl _ _).alloc (Nat.le_refl _) _
  have C6 : Chg (· = w.heap.size + 1) (rsW w (p : Int) (some ⟨b, off, none⟩) n cap) (w5.alloc (.cells #[.slice va m vc, .int .i64 0, .bool false] 36)) := (H4.out.1.trans c5).trans (Chg.of_below b6)
  obtain ⟨K6, B6⟩ := rs_R C6
  have R6 := r5.below b6
  have F6 : fB (w5.alloc (.cells #[.slice va m vc, .int .i64 0, .bool false] 36)) w2.heap.size K 0 (.slice none 0 0) (.slice none 0 0) := (H4.out.2.2.chg c5 hgF).chg (S := fun _ => False) (Chg.of_below b6) (fun h => h)
  have G6 : srB (w5.alloc (.cells #[.slice va m vc, .int .i64 0, .bool false] 36)) w5.heap.size (.slice va m vc) 0 false := heap_alloc_new w5 _
  have P6 : Pay (w5.alloc (.cells #[.slice va m vc, .int .i64 0, .bool false] 36)) va m vc ys := pay5.chg (S := fun _ => False) (Chg.of_below b6) (fun _ _ _ h => h)
  have hz5 : w2.heap.size < w5.heap.size := by have h1 := H4.out.2.2.lt; have h2 := c5.size; omega
  have hoff : Off va (SG w5.heap.size w2.heap.size) := fun b' off' e h => by
    have h1 := hvl b' off' e
    have h2 := H4.out.2.2.lt
    rcases h with h | h <;> omega
  have hg5 : w.heap.size + 1 < w5.heap.size := by have := r5.lt; exact this
  have hsz6 : w5.heap.size < (w5.alloc (.cells #[.slice va m vc, .int .i64 0, .bool false] 36)).heap.size := by simp
  have s6 := R6.c2
  have k6 := F6.c0
  have H6 : Hid _ := And.intro K6 (And.intro B6 (And.intro R6 (And.intro F6 (And.intro G6 (And.intro P6 hoff)))))
  clear K6 B6 R6 F6 G6 P6 hoff o5 r5 c5 pay5 hvl b6 C6 s4
  have d4 : (K == 4) = false := by rw [HK.out.1]; rfl
  have d7 : (K == 7) = true := by rw [HK.out.1]; rfl
  have d15 : (K == 15) = false := by rw [HK.out.1]; rfl
  have hF : rhF K ys = some ⟨K, varV ys 0, ys.drop (varN ys 0), []⟩ := by unfold rhF; rw [if_neg (by have := HK.out.1; omega), if_pos (by have := HK.out.1; omega), if_pos hy]
  rw [hF] at hRT
  simp only at hRT
  clear hF
  have V0 := varSP w5.heap.size va m vc 0 ys _ H6.out.2.2.2.2.1 H6.out.2.2.2.2.2.1 HY.out.1 (by omega) hy
  have hNb := varN_bd ys 0 hy
  have hLy := HY.out.2.1
  generalize varV ys 0 = A1 at V0 hRT hNb hNm
  generalize varN ys 0 = N at V0 hRT hNb hNm
  have V6 := V0
  have HV6 : Hid _ := And.intro V6 hRT
  clear V6 hRT
  go_wp2_with fail
  go_at_call 12
  refine HV6.out.1.mono ?_
  rintro e w7 ⟨rfl, r7, c7⟩
  have hzw : w.heap.size < (w5.alloc (.cells #[.slice va m vc, .int .i64 0, .bool false] 36)).heap.size := by have := H6.out.2.1.size; simp at this ⊢; omega
  have F7 := H6.out.2.2.2.1.chg c7 (by omega)
  have K7 := (c7.block w.heap.size hzw (by omega)).trans H6.out.1
  have B7 : Below w.heap.size w w7 := H6.out.2.1.trans (c7.below H6.out.2.1.size (fun k hk => by omega))
  have R7 := H6.out.2.2.1.chg c7 (by omega)
  have P7 := H6.out.2.2.2.2.2.1.chg c7 (fun b' off' e h => H6.out.2.2.2.2.2.2 b' off' e (Or.inl h))
  have f1 := F7.c1
  have ff1 := F7.fr 1
  have hz7 := c7.size
  clear V0
  have K8 : (w7.setCell ⟨w2.heap.size, 1, none⟩ (.int .i64 A1)).heap[w.heap.size]? = some zfO := (bk_other (by omega) 1 _).trans K7
  have B8 : Below w.heap.size w (w7.setCell ⟨w2.heap.size, 1, none⟩ (.int .i64 A1)) := B7.setCell (by simp; omega) _
  have R8 : srB (w7.setCell ⟨w2.heap.size, 1, none⟩ (.int .i64 A1)) (w.heap.size + 1) (.slice (some ⟨b, off, none⟩) n cap) ((Q2 + m : Nat) : Int) false := (bk_other (by omega) 1 _).trans R7
  have F8 : fB (w7.setCell ⟨w2.heap.size, 1, none⟩ (.int .i64 A1)) w2.heap.size K A1 (.slice none 0 0) (.slice none 0 0) := F7.set1 _
  have G8 : srB (w7.setCell ⟨w2.heap.size, 1, none⟩ (.int .i64 A1)) w5.heap.size (.slice va m vc) (N : Int) false := (bk_other (by omega) 1 _).trans r7
  have P8 : Pay (w7.setCell ⟨w2.heap.size, 1, none⟩ (.int .i64 A1)) va m vc ys := P7.chg (S := (· = w2.heap.size)) ((Chg.refl _ w7).set w2.heap.size 1 _ rfl) (fun b' off' e h => H6.out.2.2.2.2.2.2 b' off' e (Or.inr h))
  have hz8 : (w7.setCell ⟨w2.heap.size, 1, none⟩ (.int .i64 A1)).heap.size = w7.heap.size := by simp [World.setCell]
  have H8 : Hid _ := And.intro K8 (And.intro B8 (And.intro R8 (And.intro F8 (And.intro G8 (And.intro P8 hz8)))))
  clear K8 B8 R8 F8 G8 P8 hz8 K7 B7 R7 F7 P7 r7 c7
  have hne : ((N : Int) != (m : Int)) = true := by simp; omega
  have HRes : Hid (rhV (rhT xs p) = (zHF, 0, 3)) := res_bad (f := ⟨K, A1, ys.drop N, []⟩) HV6.out.2 (by
    show ¬ hyP K A1 (ys.drop N).length []
    intro h
    have := h.2.2
    unfold hyK at this
    rw [List.length_drop] at this
    have hk := HK.out.1
    omega)
  go_upto_region 24 with fail
  have tR : (w7.setCell ⟨w2.heap.size, 1, none⟩ (.int .i64 A1)).heap[w.heap.size]? = some zfO := H8.out.1
  have tB : Below w.heap.size w (w7.setCell ⟨w2.heap.size, 1, none⟩ (.int .i64 A1)) := H8.out.2.1
  have tg : srB (w7.setCell ⟨w2.heap.size, 1, none⟩ (.int .i64 A1)) (w.heap.size + 1) (.slice (some ⟨b, off, none⟩) n cap) ((Q2 + m : Nat) : Int) false := H8.out.2.2.1
  have tG : srB (w7.setCell ⟨w2.heap.size, 1, none⟩ (.int .i64 A1)) w5.heap.size (.slice va m vc) (N : Int) false := H8.out.2.2.2.2.1
  have tF : fB (w7.setCell ⟨w2.heap.size, 1, none⟩ (.int .i64 A1)) w2.heap.size K A1 (.slice none 0 0) (.slice none 0 0) := H8.out.2.2.2.1
  have l0 := tG.c0
  have l1 := tG.c1
  have l2 := tG.c2
  have HT : Hid _ := And.intro tR tB
  clear tR tB tg tG tF
  go_wp2_with fail
  go_quiet (fail)
  obtain ⟨z0, z1, z2, z3, y0, y1, y2, y3⟩ := z4 (HT.out.1)
  have HZ : Hid _ := And.intro (HT.out.2) (HT.out.1)
  go_wp2_with fail
  refine bodyPost_ret (v := .tuple #[.agg #[.int .i64 0, .int .i64 0, .slice none 0 0, .slice none 0 0], .int .i64 0, .int .i64 3]) ?_ rfl ?_
  · refine results_row_tmp2R (t := 25) rfl _ _ w.heap.size _ (fr := (0, 0)) _ _ _ rfl rfl rfl ?_ Tryd.underlying25 rfl infoHF
    exact st4_heap (w := (w7.setCell ⟨w2.heap.size, 1, none⟩ (.int .i64 A1)).drewN nq) HZ.out.2
  · rw [HRes.out]
    exact ⟨⟨.slice none 0 0, .slice none 0 0, rfl, World.ownsRow_nil _ _ _ _, GOwns.nil _ _ _ _, fun j h => by cases h⟩, ((((below_drewN HZ.out.1 nq).setCell (by simp) _).setCell (by simp) _).setCell (by simp) _).setCell (by simp) _⟩
end Go.Proofs.YtohooehbjbhhhaaDoor
