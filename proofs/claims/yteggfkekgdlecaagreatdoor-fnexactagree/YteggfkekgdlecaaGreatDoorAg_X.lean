import Derived.Test.YteggfkekgdlecaaGreatDoorAg_S
import Derived.Test.YteggfkekgdlecaaGreatDoorAg_V
import Derived.Test.YteggfkekgdlecaaGreatDoorAg_W
namespace Go.Proofs.YteggfkekgdlecaaGreatDoor
open Go.RowKit
set_option linter.unusedVariables false
set_option linter.unusedSimpArgs false

/-- The program's HelloBytes of whatever hello. -/
theorem hbIB (v : Value) (h : HE) (w : World) (ht : Tab w) (hr : HERow w v h) (hs : h.small 9223372036854775807) (hx : h.texts maxLen) (hwf : ∀ n ∈ h.vers, (Lit.int .i64 n).wf = true) :
    Calls Tryz.prog 29 #[v] w fun e w' => ∃ (r : Value) (cd : Int), e = .returned (.tuple #[r, .int .i64 cd]) ∧ Hid (cd = if heOK h then 0 else 1) ∧ Hid (heOK h → Row w' .u8 r (heB h)) ∧ Below w.heap.size w w' := by
  by_cases ok : heOK h
  · refine (hbI_ok v h w ht hr hs hx hwf ok).mono ?_
    rintro e w' ⟨r, rfl, o, b⟩
    exact ⟨r, 0, rfl, by show _ = _; rw [if_pos ok], fun _ => row_of_owns o, b⟩
  · refine (hbI_bad v h w hr hs hx hwf ok).mono ?_
    rintro e w' ⟨r, rfl, o, b⟩
    exact ⟨r, 1, rfl, by show _ = _; rw [if_neg ok], fun q => absurd q ok, b⟩
/-- Amid the statement: what has come up holds what it should. -/
structure PI8 (W0 : World) (g2 ga tb tf q2 : Nat) (vr : Int) (N0 : ByteArray) (L1 L2 L3 L4 L5 : List Int) (f : Nat → Bool) (w : World) (u67 u68 u69 u70 u71 u72 u73 u74 u75 u76 u77 u78 u79 u80 u81 u82 u83 u84 : Value) : Prop where
  x0 : f 0 = true → u67 = .pointer (some ⟨g2, 1, none⟩)
  x1 : f 1 = true → u68 = .int .i64 vr
  x2 : f 2 = true → u69 = .pointer (some ⟨g2, 4, none⟩)
  x3 : f 3 = true → u70 = .slice (some ⟨tb, tf, none⟩) 1 q2
  x4 : f 4 = true → u71 = .pointer (some ⟨tb, tf, none⟩)
  x5 : f 5 = true → u72 = .string N0
  x6 : f 6 = true → u73 = .string N0
  x7 : f 7 = true → u74 = .slice (some ⟨ga, 0, none⟩) 16 16
  x8 : f 8 = true → w.ownsRow W0.heap.size 5 1 u75 L1.length (L1.map (Value.int .u8))
  x9 : f 9 = true → u76 = .slice (some ⟨ga, 0, none⟩) 16 16
  x10 : f 10 = true → w.ownsRow W0.heap.size 5 1 u77 L2.length (L2.map (Value.int .u8)) ∧ Apart u75 u77
  x11 : f 11 = true → u78 = .slice (some ⟨ga, 0, none⟩) 16 16
  x12 : f 12 = true → w.ownsRow W0.heap.size 5 1 u79 L3.length (L3.map (Value.int .u8)) ∧ Apart u75 u79 ∧ Apart u77 u79
  x13 : f 13 = true → u80 = .slice (some ⟨ga, 0, none⟩) 16 16
  x14 : f 14 = true → w.ownsRow W0.heap.size 5 1 u81 L4.length (L4.map (Value.int .u8)) ∧ Apart u75 u81 ∧ Apart u77 u81 ∧ Apart u79 u81
  x15 : f 15 = true → u82 = .slice (some ⟨ga, 0, none⟩) 16 16
  x16 : f 16 = true → w.ownsRow W0.heap.size 5 1 u83 L5.length (L5.map (Value.int .u8)) ∧ Apart u75 u83 ∧ Apart u77 u83 ∧ Apart u79 u83 ∧ Apart u81 u83
  x17 : f 17 = true → u84 = .agg #[.int .i64 vr, .string N0, u75, u77, u79, u81, u83]
  bl : Below W0.heap.size W0 w
  q10 : f 10 = true → f 8 = true
  q12 : f 12 = true → f 10 = true
  q14 : f 14 = true → f 12 = true
  q16 : f 16 = true → f 14 = true
  q17 : f 17 = true → f 16 = true
  late : f 18 = true → ∀ i, i < 18 → f i = true
  late2 : f 19 = true → f 18 = true
theorem nm0_size {ss : List Int} {c s : HE} (h : agG ss c s) : (s.nms.getD 0 ByteArray.empty).size ≤ 1048576 := by
  have a := (heOK_len s h.2.2.2.2).2.2.2.2 0 (by have := (agG_facts h).2.2.2.1; omega)
  omega
set_option maxRecDepth 20000 in
set_option maxHeartbeats 40000000 in
theorem agI (vs v1 v2 : Value) (ss : List Int) (c s : HE) (w : World) (ht : Tab w) (rs : Row w .u8 vs ss) (bs : Bytes ss) (ls : ss.length ≤ 1048576) (rc : HERow w v1 c) (rS : HERow w v2 s) (sc : c.small 9223372036854775807) (sS : s.small 9223372036854775807) (kc : Bytes c.rnd ∧ c.par.bytes) (kS : Bytes s.rnd ∧ s.par.bytes)
    (xc : c.texts maxLen) (xs : s.texts maxLen) (fc : ∀ n ∈ c.vers, (Lit.int .i64 n).wf = true) (fs : ∀ n ∈ s.vers, (Lit.int .i64 n).wf = true) :
    Calls Tryz.prog 8 #[vs, v1, v2] w fun e w' => ∃ r, e = .returned (.tuple #[r, .int .i64 (agC ss c s)]) ∧ AGOwns w' w.heap.size r (agR ss c s) ∧ Below w.heap.size w w' := by
  obtain ⟨C1, C2, a1, b1, b2, p1, q1, q2, rfl, rfl, T, BW, hsz, oc1, oc2⟩ := twoH_new rc rS
  obtain ⟨W, eW⟩ : ∃ W, W = agW w C1 C2 := ⟨_, rfl⟩
  have G3 : W.heap[w.heap.size + 1 + 1]? = some (.cells #[.int .i64 0, .string ⟨#[]⟩, .slice none 0 0, .slice none 0 0, .slice none 0 0, .slice none 0 0, .slice none 0 0] 31 (0, 0)) := by rw [eW]; exact (bk_new3 w _ _ _).2.2
  rw [← eW] at T BW hsz
  obtain ⟨a0, p0, evs⟩ := rs.form
  subst evs
  have SZ1 : Hid ((Tryz.prog.info? 37).map (·.size) = some C1.size) := by show _ = _; rw [T.sz.1]; exact infoHel18
  have SZ2 : Hid ((Tryz.prog.info? 37).map (·.size) = some C2.size) := by show _ = _; rw [T.sz.2]; exact infoHel18
  have TT : ∀ w1, Below W.heap.size W w1 → Tab w1 := fun w1 b => (ht.below BW ht.lt).below b (Nat.lt_of_lt_of_le ht.lt BW.size)
  have CK1 : ∀ w1, Below W.heap.size W w1 → Calls Tryz.prog 29 #[.agg C1] w1 fun e w' => ∃ (r : Value) (cd : Int), e = .returned (.tuple #[r, .int .i64 cd]) ∧ Hid (cd = if heOK c then 0 else 1) ∧ Hid (heOK c → Row w' .u8 r (heB c)) ∧ Below w1.heap.size w1 w' := fun w1 b => hbIB _ c w1 (TT w1 b) (T.below b).h1 sc xc fc
  have CK2 : ∀ w1, Below W.heap.size W w1 → Calls Tryz.prog 29 #[.agg C2] w1 fun e w' => ∃ (r : Value) (cd : Int), e = .returned (.tuple #[r, .int .i64 cd]) ∧ Hid (cd = if heOK s then 0 else 1) ∧ Hid (heOK s → Row w' .u8 r (heB s)) ∧ Below w1.heap.size w1 w' := fun w1 b => hbIB _ s w1 (TT w1 b) (T.below b).h2 sS xs fs
  have HW : Hid _ := And.intro eW (And.intro T (And.intro BW (And.intro G3 (And.intro CK1 (And.intro CK2 (And.intro (rs.below BW) (And.intro bs (And.intro kc kS))))))))
  obtain ⟨n0, en0⟩ : ∃ n, n = ss.length := ⟨_, rfl⟩
  have HN : Hid _ := And.intro en0 (And.intro sc sS)
  rw [← en0] at ls ⊢
  clear eW T BW G3 CK1 CK2 rs bs kc kS rc rS sc sS en0 TT ht xc xs fc fs
  go_enter Tryz.func8, Tryz.ntmps8
  go_upto_region 1 with fail
  rw [show (((w.alloc (.cells C1 37)).alloc (.cells C2 37)).alloc (.cells #[.int .i64 0, .string ⟨#[]⟩, .slice none 0 0, .slice none 0 0, .slice none 0 0, .slice none 0 0, .slice none 0 0] 31)) = W from HW.out.1.symm]
  go_wp2_with (refine wpList_load_row rfl 37 (.tmp 4) rfl w.heap.size rfl 37 C1 (0, 0) _ HW.out.2.1.b1' Tryz.underlying37 rfl SZ1.out ?_)
  go_at_call 29
  refine (HW.out.2.2.2.2.1 W (Below.refl _ _)).mono ?_
  rintro e w1 ⟨r1, d1, rfl, hd1, hr1, wb1⟩
  have H1 : Hid _ := And.intro wb1 (HW.out.2.1.below wb1)
  clear wb1
  go_wp2_with (refine wpList_load_row rfl 37 (.tmp 5) rfl (w.heap.size + 1) rfl 37 C2 (0, 0) _ H1.out.2.b2' Tryz.underlying37 rfl SZ2.out ?_)
  go_at_call 29
  refine (HW.out.2.2.2.2.2.1 w1 H1.out.1).mono ?_
  rintro e w2 ⟨r2, d2, rfl, hd2, hr2, wb2⟩
  have B2 := H1.out.1.trans (wb2.mono H1.out.1.size)
  have T2 := HW.out.2.1.below B2
  obtain ⟨k0, -, -, k1, -, -⟩ := T2.cells
  have H2 : Hid _ := And.intro B2 (And.intro T2 (And.intro (show heOK c → Row w2 .u8 r1 (heB c) from fun q => (hr1.out q).below wb2) hr2.out))
  clear wb2 B2 T2 hr1 hr2
  go_upto_region 3 with fail
  go_cut [43] from 23 to 85 (fun v43 wx => v43 = .bool (!decide (agG ss c s)) ∧ wx = w2)
  case first =>
    by_cases h16 : n0 = 16
    case neg =>
      have f0 : ((n0 : Int) != 16) = true := by simp; omega
      have hno : Hid (decide (agG ss c s) = false) := decide_eq_false (fun h => h16 (HN.out.1.trans h.1))
      go_wp2_with fail
      go_meet
      rw [hno.out]
      exact ⟨rfl, rfl⟩
    subst h16
    by_cases okc : heOK c
    case neg =>
      have hd1' : d1 = 1 := by rw [hd1.out, if_neg okc]
      subst hd1'
      have hno : Hid (decide (agG ss c s) = false) := decide_eq_false (fun h => okc h.2.2.2.1)
      go_wp2_with fail
      go_meet
      rw [hno.out]
      exact ⟨rfl, rfl⟩
    have hd1' : d1 = 0 := by rw [hd1.out, if_pos okc]
    subst hd1'
    by_cases oks : heOK s
    case neg =>
      have hd2' : d2 = 1 := by rw [hd2.out, if_neg oks]
      subst hd2'
      have hno : Hid (decide (agG ss c s) = false) := decide_eq_false (fun h => oks h.2.2.2.2)
      go_wp2_with fail
      go_meet
      rw [hno.out]
      exact ⟨rfl, rfl⟩
    have hd2' : d2 = 0 := by rw [hd2.out, if_pos oks]
    subst hd2'
    by_cases hk1 : c.kd = 1
    case neg =>
      have f1 : (c.kd != 1) = true := by simpa using hk1
      have hno : Hid (decide (agG ss c s) = false) := decide_eq_false (fun h => hk1 h.2.1)
      go_wp2_with fail
      go_meet
      rw [hno.out]
      exact ⟨rfl, rfl⟩
    rw [hk1] at k0
    by_cases hk2 : s.kd = 2
    case neg =>
      have f1 : (s.kd != 2) = true := by simpa using hk2
      have hno : Hid (decide (agG ss c s) = false) := decide_eq_false (fun h => hk2 h.2.2.1)
      go_wp2_with fail
      go_meet
      rw [hno.out]
      exact ⟨rfl, rfl⟩
    rw [hk2] at k1
    have hG : Hid (decide (agG ss c s) = true) := decide_eq_true ⟨HN.out.1.symm, hk1, hk2, okc, oks⟩
    clear hk1 hk2 okc oks
    go_wp2_with fail
    go_meet
    rw [hG.out]
    exact ⟨rfl, rfl⟩
  case rest =>
  obtain ⟨rfl, hwc⟩ := hcut
  subst hwc
  have g3 : wc.heap[w.heap.size + 1 + 1]? = some (.cells #[.int .i64 0, .string ⟨#[]⟩, .slice none 0 0, .slice none 0 0, .slice none 0 0, .slice none 0 0, .slice none 0 0] 31 (0, 0)) := (H2.out.1.block _ (Array.getElem?_eq_some_iff.1 HW.out.2.2.2.1).1).trans HW.out.2.2.2.1
  by_cases hG : agG ss c s
  case neg =>
    as_aux_lemma =>
    have HE : Hid _ := And.intro (show agC ss c s = 1 by unfold agC; rw [if_neg hG]) (show agR ss c s = AG.zero by unfold agR; rw [if_neg (fun q => hG q.1)])
    have hd : decide (agG ss c s) = false := decide_eq_false hG
    rw [hd]
    have HZ : Hid _ := g3
    clear hd hG k0 k1 g3
    go_wp2_with (refine wpList_store_row rfl 31 _ _ rfl (w.heap.size + 1 + 1) #[.int .i64 0, .string ⟨#[]⟩, .slice none 0 0, .slice none 0 0, .slice none 0 0, .slice none 0 0, .slice none 0 0] rfl rfl 31 _ HZ.out infoAG7 rfl (by simp [Value.oneCell']) ?_)
    refine bodyPost_ret (v := .tuple #[.agg #[.int .i64 0, .string ⟨#[]⟩, .slice none 0 0, .slice none 0 0, .slice none 0 0, .slice none 0 0, .slice none 0 0], .int .i64 1]) ?_ rfl ?_
    · exact results_rtA (t := 31) rfl _ _ (w.heap.size + 1 + 1) _ (fr := (0, 0)) _ _ rfl rfl (setRow_heap _ _ _ _ _ _ HZ.out) Tryz.underlying31 rfl infoAG7
    · rw [HE.out.1, HE.out.2]
      exact ⟨_, rfl, agZero _ _, below_setRow (HW.out.2.2.1.trans (H2.out.1.mono HW.out.2.2.1.size)) (by omega) _⟩
  have hd : decide (agG ss c s) = true := decide_eq_true hG
  rw [hd]
  obtain ⟨v8, v1, m4, m1, r1', r2'⟩ := agG_facts hG
  obtain ⟨nv, env⟩ : ∃ n, n = c.vers.length := ⟨_, rfl⟩
  obtain ⟨nn, enn⟩ : ∃ n, n = c.nms.length := ⟨_, rfl⟩
  obtain ⟨vr, evr⟩ : ∃ n, n = s.vr := ⟨_, rfl⟩
  obtain ⟨N0, eN0⟩ : ∃ n, n = s.nms.getD 0 ByteArray.empty := ⟨_, rfl⟩
  have T1 := H2.out.2.1
  obtain ⟨tb0, ct0, et0, hc0⟩ := T1.t2.cells
  obtain ⟨tb, tf, etb, htb, hcn⟩ := hc0 0 (by omega)
  subst etb
  have eb2 : b2 = some ⟨tb, tf, none⟩ := by injection et0
  subst eb2
  rw [← eN0, Nat.add_zero] at hcn
  have CE : ∀ wx, Below wc.heap.size wc wx → wx.cell? ⟨w.heap.size, 3, none⟩ = some (.slice a1 nv p1) ∧ wx.cell? ⟨w.heap.size, 4, none⟩ = some (.slice b1 nn q1) ∧ wx.cell? ⟨w.heap.size + 1, 1, none⟩ = some (.int .i64 vr) ∧ wx.cell? ⟨w.heap.size + 1, 4, none⟩ = some (.slice (some ⟨tb, tf, none⟩) 1 q2) ∧ wx.cell? ⟨tb, tf, none⟩ = some (.string N0) := fun wx b => by
    obtain ⟨j0, j1, j2, j3, j4, j5⟩ := (T1.below b).cells
    rw [← env] at j1
    rw [← enn] at j2
    rw [← evr] at j4
    rw [m1] at j5
    exact ⟨j1, j2, j4, j5, (b.cell (p := ⟨tb, tf, none⟩) htb).trans hcn⟩
  obtain ⟨bv, ebv⟩ : ∃ b, b = c.vers.contains vr := ⟨_, rfl⟩
  obtain ⟨bn, ebn⟩ : ∃ b, b = decide (agN c s) := ⟨_, rfl⟩
  have CV : ∀ n : Nat, Calls Tryz.prog 30 #[.slice a1 nv p1, .int .i64 vr] (wc.drewN n) fun e w' => e = .returned (.bool bv) ∧ w' = wc.drewN n := fun n => by
    rw [ebv, env]
    exact containsN _ c.vers vr _ (T1.below (below_drewN (Below.refl _ _) n)).r1 (by omega)
  have CN : ∀ n : Nat, Calls Tryz.prog 31 #[.slice b1 nn q1, .string N0] (wc.drewN n) fun e w' => e = .returned (.bool bn) ∧ w' = wc.drewN n := fun n => by
    rw [enn]
    refine (containsT _ c.nms N0 _ (T1.below (below_drewN (Below.refl _ _) n)).t1 (by omega)).mono ?_
    rintro e w' ⟨b, rfl, hb, rfl⟩
    refine ⟨?_, rfl⟩
    have e2 : b = bn := by
      rw [ebn]
      have h := hb.out
      rw [eN0] at h
      cases b with
      | true => exact (decide_eq_true (p := agN c s) (h.1 rfl)).symm
      | false => exact (decide_eq_false (p := agN c s) (fun q => by have := h.2 q; cases this)).symm
    rw [e2]
  obtain ⟨y3, y4, y1, y5, y6⟩ := CE wc (Below.refl _ _)
  have HD : Hid _ := And.intro CV (And.intro CN (And.intro CE (And.intro T1 (And.intro hG (And.intro ebv (And.intro ebn (And.intro env (And.intro enn (And.intro evr eN0)))))))))
  clear CV CN CE T1 hG ebv ebn env enn evr eN0 hd hcn hc0 et0 v8 v1 m4 m1 r1' r2'
  go_upto_region 5 with fail
  cases bv with
  | false =>
    as_aux_lemma =>
    have hnH : ¬ agH c s := fun q => by have h := q.2; rw [← HD.out.2.2.2.2.2.2.2.2.2.1, ← HD.out.2.2.2.2.2.1] at h; cases h
    have HE : Hid _ := And.intro (show agC ss c s = 12 by unfold agC; rw [if_pos HD.out.2.2.2.2.1, if_neg hnH]) (show agR ss c s = AG.zero by unfold agR; rw [if_neg (fun q => hnH q.2)])
    clear hnH
    go_quiet (first | (go_at_call 30; exact Calls.quiet_of_same (HD.out.1 _)) | (go_at_call 31; exact Calls.quiet_of_same (HD.out.2.1 _)))
    have HZ : Hid _ := g3
    clear k0 k1 g3 y3 y4 y1 y5 y6
    go_wp2_with (refine wpList_store_row rfl 31 _ _ rfl (w.heap.size + 1 + 1) #[.int .i64 0, .string ⟨#[]⟩, .slice none 0 0, .slice none 0 0, .slice none 0 0, .slice none 0 0, .slice none 0 0] rfl rfl 31 _ HZ.out infoAG7 rfl (by simp [Value.oneCell']) ?_)
    refine bodyPost_ret (v := .tuple #[.agg #[.int .i64 0, .string ⟨#[]⟩, .slice none 0 0, .slice none 0 0, .slice none 0 0, .slice none 0 0, .slice none 0 0], .int .i64 12]) ?_ rfl ?_
    · exact results_rtA (t := 31) rfl _ _ (w.heap.size + 1 + 1) _ (fr := (0, 0)) _ _ rfl rfl (setRow_heap _ _ _ _ _ _ HZ.out) Tryz.underlying31 rfl infoAG7
    · rw [HE.out.1, HE.out.2]
      exact ⟨_, rfl, agZero _ _, below_setRow (below_drewN (HW.out.2.2.1.trans (H2.out.1.mono HW.out.2.2.1.size)) _) (by omega) _⟩
  | true =>
    cases bn with
    | false =>
      as_aux_lemma =>
      have hnH : ¬ agH c s := fun q => of_decide_eq_false HD.out.2.2.2.2.2.2.1.symm q.1
      have HE : Hid _ := And.intro (show agC ss c s = 12 by unfold agC; rw [if_pos HD.out.2.2.2.2.1, if_neg hnH]) (show agR ss c s = AG.zero by unfold agR; rw [if_neg (fun q => hnH q.2)])
      clear hnH
      go_quiet (first | (go_at_call 30; exact Calls.quiet_of_same (HD.out.1 _)) | (go_at_call 31; exact Calls.quiet_of_same (HD.out.2.1 _)))
      have HZ : Hid _ := g3
      clear k0 k1 g3 y3 y4 y1 y5 y6
      go_wp2_with (refine wpList_store_row rfl 31 _ _ rfl (w.heap.size + 1 + 1) #[.int .i64 0, .string ⟨#[]⟩, .slice none 0 0, .slice none 0 0, .slice none 0 0, .slice none 0 0, .slice none 0 0] rfl rfl 31 _ HZ.out infoAG7 rfl (by simp [Value.oneCell']) ?_)
      refine bodyPost_ret (v := .tuple #[.agg #[.int .i64 0, .string ⟨#[]⟩, .slice none 0 0, .slice none 0 0, .slice none 0 0, .slice none 0 0, .slice none 0 0], .int .i64 12]) ?_ rfl ?_
      · exact results_rtA (t := 31) rfl _ _ (w.heap.size + 1 + 1) _ (fr := (0, 0)) _ _ rfl rfl (setRow_heap _ _ _ _ _ _ HZ.out) Tryz.underlying31 rfl infoAG7
      · rw [HE.out.1, HE.out.2]
        exact ⟨_, rfl, agZero _ _, below_setRow (below_drewN (HW.out.2.2.1.trans (H2.out.1.mono HW.out.2.2.1.size)) _) (by omega) _⟩
    | true =>
      have hH : Hid (agH c s) := ⟨of_decide_eq_true HD.out.2.2.2.2.2.2.1.symm, by rw [← HD.out.2.2.2.2.2.2.2.2.2.1]; exact HD.out.2.2.2.2.2.1.symm⟩
      go_quiet (first | (go_at_call 30; exact Calls.quiet_of_same (HD.out.1 _)) | (go_at_call 31; exact Calls.quiet_of_same (HD.out.2.1 _)))
      go_upto_region 7 with fail
      have okc := HD.out.2.2.2.2.1.2.2.2.1
      have oks := HD.out.2.2.2.2.1.2.2.2.2
      obtain ⟨ar1, ac1, er1⟩ := (H2.out.2.2.1 okc).form
      obtain ⟨ar2, ac2, er2⟩ := (H2.out.2.2.2 oks).form
      obtain ⟨m1, em1⟩ : ∃ n, n = (heB c).length := ⟨_, rfl⟩
      obtain ⟨m2, em2⟩ : ∃ n, n = (heB s).length := ⟨_, rfl⟩
      rw [← em1] at er1
      rw [← em2] at er2
      have HR1 : Hid (Row wc .u8 r1 (heB c)) := H2.out.2.2.1 okc
      have HR2 : Hid (Row wc .u8 r2 (heB s)) := H2.out.2.2.2 oks
      subst er1
      subst er2
      obtain ⟨wd, ewd⟩ : ∃ x, x = wc.drewN nq := ⟨_, rfl⟩
      rw [← ewd]
      have bwd : Below wc.heap.size wc wd := by rw [ewd]; exact below_drewN (Below.refl _ _) _
      have lc := heB_len c okc
      have lS := heB_len s oks
      have bc := heB_bytes c okc HW.out.2.2.2.2.2.2.2.2.1
      have bS := heB_bytes s oks HW.out.2.2.2.2.2.2.2.2.2
      have l16 : n0 = 16 := HN.out.1.trans HD.out.2.2.2.2.1.1
      subst l16
      have q1 : Row wd .u8 (.slice a0 16 p0) ss := by have h := (HW.out.2.2.2.2.2.2.1.below H2.out.1).below bwd; rw [← HN.out.1] at h; exact h
      have CP := iparts (.slice a0 16 p0) _ ss [heB c, heB s] _ (q1.below ((Below.refl _ _).alloc (Nat.le_refl _) _)) HW.out.2.2.2.2.2.2.2.1 (by have := HN.out.1; omega) (parts2 (HR1.out.below bwd) (HR2.out.below bwd) 22) (bytes_getD2 bc bS) (by simp; omega) (by simp)
      rw [show [heB c, heB s].flatten = heB c ++ heB s by simp] at CP
      obtain ⟨rt, ert⟩ : ∃ rt, rt = agRt ss c s := ⟨_, rfl⟩
      rw [show digV ss (heB c ++ heB s) = rt from ert.symm] at CP
      have brt : Bytes rt := by rw [ert]; exact agRt_bytes ss c s
      have lrt : rt.length = 16 := by rw [ert]; exact agRt_len ss c s
      have HP : Hid _ := And.intro CP (And.intro ert (And.intro brt (And.intro lrt (And.intro bwd hH.out))))
      clear CP ert brt lrt bwd ewd lc lS bc bS q1 em1 em2 okc oks y3 y4 y1 y5 y6 k0 k1 g3
      go_wp2_with fail
      go_at_call 32
      refine HP.out.1.mono ?_
      rintro e w3 ⟨rfl, b3⟩
      have z3 : wd.heap.size ≤ w3.heap.size := by have := b3.size; simp at this; omega
      have B3 : Hid (Below wc.heap.size wc w3) := HP.out.2.2.2.2.1.trans ((((Below.refl _ _).alloc (Nat.le_refl _) _).trans (b3.mono (by simp))).mono HP.out.2.2.2.2.1.size)
      clear b3
      go_wp2_with (refine wpList_store_at rfl 61 (.tmp 12) (.tmp 66) rfl w3.heap.size _ rfl rfl 61 _ (MapKept.heap_alloc w3 _).1 (infoBs _ HP.out.2.2.2.1) (by simp [u8s_length, HP.out.2.2.2.1]) (u8s_all _) ?_; intro w9 h9 n9)
      have b9 : Below wc.heap.size wc w9 := (B3.out.alloc B3.out.size _).trans (n9.below B3.out.size)
      have T9 := HD.out.2.2.2.1.below b9
      have g9 : w9.heap[w.heap.size + 1 + 1]? = some (.cells #[.int .i64 0, .string ⟨#[]⟩, .slice none 0 0, .slice none 0 0, .slice none 0 0, .slice none 0 0, .slice none 0 0] 31 (0, 0)) := (b9.block _ (Array.getElem?_eq_some_iff.1 (((H2.out.1.block _ (Array.getElem?_eq_some_iff.1 HW.out.2.2.2.1).1).trans HW.out.2.2.2.1))).1).trans ((H2.out.1.block _ (Array.getElem?_eq_some_iff.1 HW.out.2.2.2.1).1).trans HW.out.2.2.2.1)
      have R9 : ∀ wx, Below w9.heap.size w9 wx → Row wx .u8 (.slice (some ⟨w3.heap.size, 0, none⟩) 16 16) rt := fun wx b => (row_full h9 HP.out.2.2.2.1 (by decide)).below b
      have H9 : Hid _ := And.intro b9 (And.intro T9 (And.intro g9 R9))
      clear b9 T9 g9 h9 n9
      obtain ⟨ga, ega⟩ : ∃ g, g = w3.heap.size := ⟨_, rfl⟩
      rw [← ega] at H9 ⊢
      clear B3 z3
      go_upto_region 8 with fail
      have lg6 : w.heap.size + 1 + 1 < w9.heap.size := (Array.getElem?_eq_some_iff.1 H9.out.2.2.1).1
      have CX : ∀ wx, Below w9.heap.size w9 wx → wx.cell? ⟨w.heap.size + 1, 1, none⟩ = some (.int .i64 vr) ∧ wx.cell? ⟨w.heap.size + 1, 4, none⟩ = some (.slice (some ⟨tb, tf, none⟩) 1 q2) ∧ wx.cell? ⟨tb, tf, none⟩ = some (.string N0) := fun wx b => by obtain ⟨_, _, a, b2, c2⟩ := HD.out.2.2.1 wx (H9.out.1.trans (b.mono H9.out.1.size)); exact ⟨a, b2, c2⟩
      have sN : N0.size ≤ 1048576 := by rw [HD.out.2.2.2.2.2.2.2.2.2.2]; exact nm0_size HD.out.2.2.2.2.1
      have CL : ∀ wx, Calls Tryz.prog 33 #[.string N0] wx fun e w' => e = .returned (.string N0) ∧ Below wx.heap.size wx w' := fun wx => cloneC N0 wx sN
      obtain ⟨L1, eL1⟩ : ∃ L, L = derV rt lC1 16 := ⟨_, rfl⟩
      have CD1 : ∀ wx, Below w9.heap.size w9 wx → Calls Tryz.prog 34 #[.slice (some ⟨ga, 0, none⟩) 16 16, .string lC1, .int .i64 16] wx fun e w' => ∃ r, e = .returned r ∧ w'.ownsRow wx.heap.size 5 1 r L1.length (L1.map (Value.int .u8)) ∧ Below wx.heap.size wx w' := fun wx b => by rw [eL1]; exact implDerive _ rt lC1 16 wx (H9.out.2.2.2 wx b) HP.out.2.2.1 (by have := HP.out.2.2.2.1; omega) (by decide)
      obtain ⟨L2, eL2⟩ : ∃ L, L = derV rt lS1 16 := ⟨_, rfl⟩
      have CD2 : ∀ wx, Below w9.heap.size w9 wx → Calls Tryz.prog 34 #[.slice (some ⟨ga, 0, none⟩) 16 16, .string lS1, .int .i64 16] wx fun e w' => ∃ r, e = .returned r ∧ w'.ownsRow wx.heap.size 5 1 r L2.length (L2.map (Value.int .u8)) ∧ Below wx.heap.size wx w' := fun wx b => by rw [eL2]; exact implDerive _ rt lS1 16 wx (H9.out.2.2.2 wx b) HP.out.2.2.1 (by have := HP.out.2.2.2.1; omega) (by decide)
      obtain ⟨L3, eL3⟩ : ∃ L, L = derV rt lC2 16 := ⟨_, rfl⟩
      have CD3 : ∀ wx, Below w9.heap.size w9 wx → Calls Tryz.prog 34 #[.slice (some ⟨ga, 0, none⟩) 16 16, .string lC2, .int .i64 16] wx fun e w' => ∃ r, e = .returned r ∧ w'.ownsRow wx.heap.size 5 1 r L3.length (L3.map (Value.int .u8)) ∧ Below wx.heap.size wx w' := fun wx b => by rw [eL3]; exact implDerive _ rt lC2 16 wx (H9.out.2.2.2 wx b) HP.out.2.2.1 (by have := HP.out.2.2.2.1; omega) (by decide)
      obtain ⟨L4, eL4⟩ : ∃ L, L = derV rt lS2 16 := ⟨_, rfl⟩
      have CD4 : ∀ wx, Below w9.heap.size w9 wx → Calls Tryz.prog 34 #[.slice (some ⟨ga, 0, none⟩) 16 16, .string lS2, .int .i64 16] wx fun e w' => ∃ r, e = .returned r ∧ w'.ownsRow wx.heap.size 5 1 r L4.length (L4.map (Value.int .u8)) ∧ Below wx.heap.size wx w' := fun wx b => by rw [eL4]; exact implDerive _ rt lS2 16 wx (H9.out.2.2.2 wx b) HP.out.2.2.1 (by have := HP.out.2.2.2.1; omega) (by decide)
      obtain ⟨L5, eL5⟩ : ∃ L, L = derV rt lCk 8 := ⟨_, rfl⟩
      have CD5 : ∀ wx, Below w9.heap.size w9 wx → Calls Tryz.prog 34 #[.slice (some ⟨ga, 0, none⟩) 16 16, .string lCk, .int .i64 8] wx fun e w' => ∃ r, e = .returned r ∧ w'.ownsRow wx.heap.size 5 1 r L5.length (L5.map (Value.int .u8)) ∧ Below wx.heap.size wx w' := fun wx b => by rw [eL5]; exact implDerive _ rt lCk 8 wx (H9.out.2.2.2 wx b) HP.out.2.2.1 (by have := HP.out.2.2.2.1; omega) (by decide)
      have HD1 : Hid _ := And.intro CX (And.intro CL (And.intro CD1 (And.intro CD2 (And.intro CD3 (And.intro CD4 CD5)))))
      have HL5 : Hid _ := And.intro eL1 (And.intro eL2 (And.intro eL3 (And.intro eL4 eL5)))
      clear CX CL sN CD1 CD2 CD3 CD4 CD5 eL1 eL2 eL3 eL4 eL5 ega
      refine region_I (fun f a wx => ∃ u67 u68 u69 u70 u71 u72 u73 u74 u75 u76 u77 u78 u79 u80 u81 u82 u83 u84 : Value, ∃ wy : World, a = { tmps := #[Value.slice a0 16 p0, Value.agg C1, Value.agg C2, undef, Value.pointer (some { block := w.heap.size, off := 0 }), Value.pointer (some { block := w.heap.size + 1, off := 0 }), Value.pointer (some { block := w.heap.size + 1 + 1, off := 0 }), Value.int IntKind.i64 0, Value.slice ar1 m1 ac1, Value.int IntKind.i64 d1, Value.slice ar2 m2 ac2, Value.int IntKind.i64 d2, Value.pointer (some { block := ga, off := 0 }), Value.tuple #[Value.slice ar1 m1 ac1, Value.int IntKind.i64 d1], Value.agg C1, Value.tuple #[Value.slice ar1 m1 ac1, Value.int IntKind.i64 d1], Value.slice ar1 m1 ac1, Value.int IntKind.i64 d1, Value.tuple #[Value.slice ar2 m2 ac2, Value.int IntKind.i64 d2], Value.agg C2, Value.tuple #[Value.slice ar2 m2 ac2, Value.int IntKind.i64 d2], Value.slice ar2 m2 ac2, Value.int IntKind.i64 d2, u23, u24, u25, u26, u27, u28, u29, u30, u31, u32, u33, u34, u35, u36, u37, u38, u39, u40, u41, u42, Value.bool false, u44, Value.pointer (some { block := w.heap.size, off := 3 }), Value.slice a1 nv p1, Value.pointer (some { block := w.heap.size + 1, off := 1 }), Value.int IntKind.i64 vr, Value.bool true, Value.bool false, Value.bool false, Value.pointer (some { block := w.heap.size, off := 4 }), Value.slice b1 nn q1, Value.pointer (some { block := w.heap.size + 1, off := 4 }), Value.slice (some { block := tb, off := tf }) 1 q2, Value.pointer (some { block := tb, off := tf }), Value.string N0, Value.bool true, Value.bool false, Value.bool false, u61, Value.slice a0 16 p0, Value.slice ar1 m1 ac1, Value.slice ar2 m2 ac2, Value.slice (some { block := wd.heap.size, off := 0 }) 2 2, Value.agg (u8s rt).toArray, u67, u68, u69, u70, u71, u72, u73, u74, u75, u76, u77, u78, u79, u80, u81, u82, u83, u84], defers := [] } ∧ PI8 w9 (w.heap.size + 1) ga tb tf q2 vr N0 L1 L2 L3 L4 L5 f wy u67 u68 u69 u70 u71 u72 u73 u74 u75 u76 u77 u78 u79 u80 u81 u82 u83 u84 ∧ wx = (if f 18 = true then put7A wy (w.heap.size + 1 + 1) (.int .i64 vr) (.string N0) u75 u77 u79 u81 u83 else wy)) (by kernel_rfl) (by kernel_rfl) ?step ?done ?start
      case start =>
        refine ⟨_, _, _, _, _, _, _, _, _, _, _, _, _, _, _, _, _, _, w9.drew, rfl, ⟨fun h => by simp at h, fun h => by simp at h, fun h => by simp at h, fun h => by simp at h, fun h => by simp at h, fun h => by simp at h, fun h => by simp at h, fun h => by simp at h, fun h => by simp at h, fun h => by simp at h, fun h => by simp at h, fun h => by simp at h, fun h => by simp at h, fun h => by simp at h, fun h => by simp at h, fun h => by simp at h, fun h => by simp at h, fun h => by simp at h, ⟨rfl, rfl, rfl, Nat.le_refl _, fun _ _ => rfl⟩, fun h => by simp at h, fun h => by simp at h, fun h => by simp at h, fun h => by simp at h, fun h => by simp at h, fun h => by simp at h, fun h => by simp at h⟩, by simp⟩
      case step =>
        intro f a wx j op hInv hoj hfj hall K hK
        obtain ⟨u67, u68, u69, u70, u71, u72, u73, u74, u75, u76, u77, u78, u79, u80, u81, u82, u83, u84, wy, rfl, hI, hwx⟩ := hInv
        have hj : j < 20 := (Array.getElem?_eq_some_iff.1 hoj).1
        obtain ⟨cA, cB, cC⟩ := HD1.out.1 wy hI.bl
        obtain rfl | rfl | rfl | rfl | rfl | rfl | rfl | rfl | rfl | rfl | rfl | rfl | rfl | rfl | rfl | rfl | rfl | rfl | rfl | rfl : j = 0 ∨ j = 1 ∨ j = 2 ∨ j = 3 ∨ j = 4 ∨ j = 5 ∨ j = 6 ∨ j = 7 ∨ j = 8 ∨ j = 9 ∨ j = 10 ∨ j = 11 ∨ j = 12 ∨ j = 13 ∨ j = 14 ∨ j = 15 ∨ j = 16 ∨ j = 17 ∨ j = 18 ∨ j = 19 := by omega
        · obtain rfl := Option.some.inj hoj
          have h18 : f 18 = false := by
            cases h : f 18 with
            | false => rfl
            | true => exact absurd (hI.late h 0 (by omega)) (by rw [hfj]; simp)
          obtain rfl : wx = wy := by rw [hwx, h18]; rfl
          clear hwx
          have HI2 : Hid _ := And.intro hI True.intro
          clear hI
          go_simp
          refine hK _ _ ?_
          refine ⟨_, _, _, _, _, _, _, _, _, _, _, _, _, _, _, _, _, _, wx, rfl, ?_, ?_⟩
          · have hI := HI2.out.1
            exact ⟨fun _ => rfl, fun h => hI.x1 (by simpa using h), fun h => hI.x2 (by simpa using h), fun h => hI.x3 (by simpa using h), fun h => hI.x4 (by simpa using h), fun h => hI.x5 (by simpa using h), fun h => hI.x6 (by simpa using h), fun h => hI.x7 (by simpa using h), fun h => hI.x8 (by simpa using h), fun h => hI.x9 (by simpa using h), fun h => hI.x10 (by simpa using h), fun h => hI.x11 (by simpa using h), fun h => hI.x12 (by simpa using h), fun h => hI.x13 (by simpa using h), fun h => hI.x14 (by simpa using h), fun h => hI.x15 (by simpa using h), fun h => hI.x16 (by simpa using h), fun h => hI.x17 (by simpa using h), hI.bl, fun h => by have := hI.q10 (by simpa using h); simp [this], fun h => by have := hI.q12 (by simpa using h); simp [this], fun h => by have := hI.q14 (by simpa using h); simp [this], fun h => by have := hI.q16 (by simpa using h); simp [this], fun h => by have := hI.q17 (by simpa using h); simp [this], fun h i hi => by have := hI.late (by simpa using h) i hi; simp [this], fun h => by have := hI.late2 (by simpa using h); simp [this]⟩
          · simp [h18]
        · obtain rfl := Option.some.inj hoj
          have h0_ := hall ⟨0, .data⟩ (by simp) rfl
          obtain rfl := hI.x0 h0_
          have h18 : f 18 = false := by
            cases h : f 18 with
            | false => rfl
            | true => exact absurd (hI.late h 1 (by omega)) (by rw [hfj]; simp)
          obtain rfl : wx = wy := by rw [hwx, h18]; rfl
          clear hwx
          have HI2 : Hid _ := And.intro hI True.intro
          clear hI
          go_simp
          refine hK _ _ ?_
          refine ⟨_, _, _, _, _, _, _, _, _, _, _, _, _, _, _, _, _, _, wx, rfl, ?_, ?_⟩
          · have hI := HI2.out.1
            exact ⟨fun h => hI.x0 (by simpa using h), fun _ => rfl, fun h => hI.x2 (by simpa using h), fun h => hI.x3 (by simpa using h), fun h => hI.x4 (by simpa using h), fun h => hI.x5 (by simpa using h), fun h => hI.x6 (by simpa using h), fun h => hI.x7 (by simpa using h), fun h => hI.x8 (by simpa using h), fun h => hI.x9 (by simpa using h), fun h => hI.x10 (by simpa using h), fun h => hI.x11 (by simpa using h), fun h => hI.x12 (by simpa using h), fun h => hI.x13 (by simpa using h), fun h => hI.x14 (by simpa using h), fun h => hI.x15 (by simpa using h), fun h => hI.x16 (by simpa using h), fun h => hI.x17 (by simpa using h), hI.bl, fun h => by have := hI.q10 (by simpa using h); simp [this], fun h => by have := hI.q12 (by simpa using h); simp [this], fun h => by have := hI.q14 (by simpa using h); simp [this], fun h => by have := hI.q16 (by simpa using h); simp [this], fun h => by have := hI.q17 (by simpa using h); simp [this], fun h i hi => by have := hI.late (by simpa using h) i hi; simp [this], fun h => by have := hI.late2 (by simpa using h); simp [this]⟩
          · simp [h18]
        · obtain rfl := Option.some.inj hoj
          have h18 : f 18 = false := by
            cases h : f 18 with
            | false => rfl
            | true => exact absurd (hI.late h 2 (by omega)) (by rw [hfj]; simp)
          obtain rfl : wx = wy := by rw [hwx, h18]; rfl
          clear hwx
          have HI2 : Hid _ := And.intro hI True.intro
          clear hI
          go_simp
          refine hK _ _ ?_
          refine ⟨_, _, _, _, _, _, _, _, _, _, _, _, _, _, _, _, _, _, wx, rfl, ?_, ?_⟩
          · have hI := HI2.out.1
            exact ⟨fun h => hI.x0 (by simpa using h), fun h => hI.x1 (by simpa using h), fun _ => rfl, fun h => hI.x3 (by simpa using h), fun h => hI.x4 (by simpa using h), fun h => hI.x5 (by simpa using h), fun h => hI.x6 (by simpa using h), fun h => hI.x7 (by simpa using h), fun h => hI.x8 (by simpa using h), fun h => hI.x9 (by simpa using h), fun h => hI.x10 (by simpa using h), fun h => hI.x11 (by simpa using h), fun h => hI.x12 (by simpa using h), fun h => hI.x13 (by simpa using h), fun h => hI.x14 (by simpa using h), fun h => hI.x15 (by simpa using h), fun h => hI.x16 (by simpa using h), fun h => hI.x17 (by simpa using h), hI.bl, fun h => by have := hI.q10 (by simpa using h); simp [this], fun h => by have := hI.q12 (by simpa using h); simp [this], fun h => by have := hI.q14 (by simpa using h); simp [this], fun h => by have := hI.q16 (by simpa using h); simp [this], fun h => by have := hI.q17 (by simpa using h); simp [this], fun h i hi => by have := hI.late (by simpa using h) i hi; simp [this], fun h => by have := hI.late2 (by simpa using h); simp [this]⟩
          · simp [h18]
        · obtain rfl := Option.some.inj hoj
          have h2_ := hall ⟨2, .data⟩ (by simp) rfl
          obtain rfl := hI.x2 h2_
          have h18 : f 18 = false := by
            cases h : f 18 with
            | false => rfl
            | true => exact absurd (hI.late h 3 (by omega)) (by rw [hfj]; simp)
          obtain rfl : wx = wy := by rw [hwx, h18]; rfl
          clear hwx
          have HI2 : Hid _ := And.intro hI True.intro
          clear hI
          go_simp
          refine hK _ _ ?_
          refine ⟨_, _, _, _, _, _, _, _, _, _, _, _, _, _, _, _, _, _, wx, rfl, ?_, ?_⟩
          · have hI := HI2.out.1
            exact ⟨fun h => hI.x0 (by simpa using h), fun h => hI.x1 (by simpa using h), fun h => hI.x2 (by simpa using h), fun _ => rfl, fun h => hI.x4 (by simpa using h), fun h => hI.x5 (by simpa using h), fun h => hI.x6 (by simpa using h), fun h => hI.x7 (by simpa using h), fun h => hI.x8 (by simpa using h), fun h => hI.x9 (by simpa using h), fun h => hI.x10 (by simpa using h), fun h => hI.x11 (by simpa using h), fun h => hI.x12 (by simpa using h), fun h => hI.x13 (by simpa using h), fun h => hI.x14 (by simpa using h), fun h => hI.x15 (by simpa using h), fun h => hI.x16 (by simpa using h), fun h => hI.x17 (by simpa using h), hI.bl, fun h => by have := hI.q10 (by simpa using h); simp [this], fun h => by have := hI.q12 (by simpa using h); simp [this], fun h => by have := hI.q14 (by simpa using h); simp [this], fun h => by have := hI.q16 (by simpa using h); simp [this], fun h => by have := hI.q17 (by simpa using h); simp [this], fun h i hi => by have := hI.late (by simpa using h) i hi; simp [this], fun h => by have := hI.late2 (by simpa using h); simp [this]⟩
          · simp [h18]
        · obtain rfl := Option.some.inj hoj
          have h3_ := hall ⟨3, .data⟩ (by simp) rfl
          obtain rfl := hI.x3 h3_
          have h18 : f 18 = false := by
            cases h : f 18 with
            | false => rfl
            | true => exact absurd (hI.late h 4 (by omega)) (by rw [hfj]; simp)
          obtain rfl : wx = wy := by rw [hwx, h18]; rfl
          clear hwx
          have HI2 : Hid _ := And.intro hI True.intro
          clear hI
          go_simp
          refine hK _ _ ?_
          refine ⟨_, _, _, _, _, _, _, _, _, _, _, _, _, _, _, _, _, _, wx, rfl, ?_, ?_⟩
          · have hI := HI2.out.1
            exact ⟨fun h => hI.x0 (by simpa using h), fun h => hI.x1 (by simpa using h), fun h => hI.x2 (by simpa using h), fun h => hI.x3 (by simpa using h), fun _ => rfl, fun h => hI.x5 (by simpa using h), fun h => hI.x6 (by simpa using h), fun h => hI.x7 (by simpa using h), fun h => hI.x8 (by simpa using h), fun h => hI.x9 (by simpa using h), fun h => hI.x10 (by simpa using h), fun h => hI.x11 (by simpa using h), fun h => hI.x12 (by simpa using h), fun h => hI.x13 (by simpa using h), fun h => hI.x14 (by simpa using h), fun h => hI.x15 (by simpa using h), fun h => hI.x16 (by simpa using h), fun h => hI.x17 (by simpa using h), hI.bl, fun h => by have := hI.q10 (by simpa using h); simp [this], fun h => by have := hI.q12 (by simpa using h); simp [this], fun h => by have := hI.q14 (by simpa using h); simp [this], fun h => by have := hI.q16 (by simpa using h); simp [this], fun h => by have := hI.q17 (by simpa using h); simp [this], fun h i hi => by have := hI.late (by simpa using h) i hi; simp [this], fun h => by have := hI.late2 (by simpa using h); simp [this]⟩
          · simp [h18]
        · obtain rfl := Option.some.inj hoj
          have h4_ := hall ⟨4, .data⟩ (by simp) rfl
          obtain rfl := hI.x4 h4_
          have h18 : f 18 = false := by
            cases h : f 18 with
            | false => rfl
            | true => exact absurd (hI.late h 5 (by omega)) (by rw [hfj]; simp)
          obtain rfl : wx = wy := by rw [hwx, h18]; rfl
          clear hwx
          have HI2 : Hid _ := And.intro hI True.intro
          clear hI
          go_simp
          refine hK _ _ ?_
          refine ⟨_, _, _, _, _, _, _, _, _, _, _, _, _, _, _, _, _, _, wx, rfl, ?_, ?_⟩
          · have hI := HI2.out.1
            exact ⟨fun h => hI.x0 (by simpa using h), fun h => hI.x1 (by simpa using h), fun h => hI.x2 (by simpa using h), fun h => hI.x3 (by simpa using h), fun h => hI.x4 (by simpa using h), fun _ => rfl, fun h => hI.x6 (by simpa using h), fun h => hI.x7 (by simpa using h), fun h => hI.x8 (by simpa using h), fun h => hI.x9 (by simpa using h), fun h => hI.x10 (by simpa using h), fun h => hI.x11 (by simpa using h), fun h => hI.x12 (by simpa using h), fun h => hI.x13 (by simpa using h), fun h => hI.x14 (by simpa using h), fun h => hI.x15 (by simpa using h), fun h => hI.x16 (by simpa using h), fun h => hI.x17 (by simpa using h), hI.bl, fun h => by have := hI.q10 (by simpa using h); simp [this], fun h => by have := hI.q12 (by simpa using h); simp [this], fun h => by have := hI.q14 (by simpa using h); simp [this], fun h => by have := hI.q16 (by simpa using h); simp [this], fun h => by have := hI.q17 (by simpa using h); simp [this], fun h i hi => by have := hI.late (by simpa using h) i hi; simp [this], fun h => by have := hI.late2 (by simpa using h); simp [this]⟩
          · simp [h18]
        · obtain rfl := Option.some.inj hoj
          have h5_ := hall ⟨5, .data⟩ (by simp) rfl
          obtain rfl := hI.x5 h5_
          have h18 : f 18 = false := by
            cases h : f 18 with
            | false => rfl
            | true => exact absurd (hI.late h 6 (by omega)) (by rw [hfj]; simp)
          obtain rfl : wx = wy := by rw [hwx, h18]; rfl
          clear hwx
          have HI2 : Hid _ := And.intro hI True.intro
          clear hI
          go_simp
          go_at_call 33
          refine (HD1.out.2.1 wx).mono ?_
          rintro e w7 ⟨rfl, b7⟩
          refine hK _ _ ?_
          refine ⟨_, _, _, _, _, _, _, _, _, _, _, _, _, _, _, _, _, _, w7, rfl, ?_, ?_⟩
          · have hI := HI2.out.1
            exact ⟨fun h => hI.x0 (by simpa using h), fun h => hI.x1 (by simpa using h), fun h => hI.x2 (by simpa using h), fun h => hI.x3 (by simpa using h), fun h => hI.x4 (by simpa using h), fun h => hI.x5 (by simpa using h), fun _ => rfl, fun h => hI.x7 (by simpa using h), fun h => owns_below (hI.x8 (by simpa using h)) b7, fun h => hI.x9 (by simpa using h), fun h => ⟨owns_below (hI.x10 (by simpa using h)).1 b7, (hI.x10 (by simpa using h)).2⟩, fun h => hI.x11 (by simpa using h), fun h => ⟨owns_below (hI.x12 (by simpa using h)).1 b7, (hI.x12 (by simpa using h)).2⟩, fun h => hI.x13 (by simpa using h), fun h => ⟨owns_below (hI.x14 (by simpa using h)).1 b7, (hI.x14 (by simpa using h)).2⟩, fun h => hI.x15 (by simpa using h), fun h => ⟨owns_below (hI.x16 (by simpa using h)).1 b7, (hI.x16 (by simpa using h)).2⟩, fun h => hI.x17 (by simpa using h), hI.bl.trans (b7.mono hI.bl.size), fun h => by have := hI.q10 (by simpa using h); simp [this], fun h => by have := hI.q12 (by simpa using h); simp [this], fun h => by have := hI.q14 (by simpa using h); simp [this], fun h => by have := hI.q16 (by simpa using h); simp [this], fun h => by have := hI.q17 (by simpa using h); simp [this], fun h i hi => by have := hI.late (by simpa using h) i hi; simp [this], fun h => by have := hI.late2 (by simpa using h); simp [this]⟩
          · simp [h18]
        · obtain rfl := Option.some.inj hoj
          have h18 : f 18 = false := by
            cases h : f 18 with
            | false => rfl
            | true => exact absurd (hI.late h 7 (by omega)) (by rw [hfj]; simp)
          obtain rfl : wx = wy := by rw [hwx, h18]; rfl
          clear hwx
          have HI2 : Hid _ := And.intro hI True.intro
          clear hI
          go_simp
          refine hK _ _ ?_
          refine ⟨_, _, _, _, _, _, _, _, _, _, _, _, _, _, _, _, _, _, wx, rfl, ?_, ?_⟩
          · have hI := HI2.out.1
            exact ⟨fun h => hI.x0 (by simpa using h), fun h => hI.x1 (by simpa using h), fun h => hI.x2 (by simpa using h), fun h => hI.x3 (by simpa using h), fun h => hI.x4 (by simpa using h), fun h => hI.x5 (by simpa using h), fun h => hI.x6 (by simpa using h), fun _ => rfl, fun h => hI.x8 (by simpa using h), fun h => hI.x9 (by simpa using h), fun h => hI.x10 (by simpa using h), fun h => hI.x11 (by simpa using h), fun h => hI.x12 (by simpa using h), fun h => hI.x13 (by simpa using h), fun h => hI.x14 (by simpa using h), fun h => hI.x15 (by simpa using h), fun h => hI.x16 (by simpa using h), fun h => hI.x17 (by simpa using h), hI.bl, fun h => by have := hI.q10 (by simpa using h); simp [this], fun h => by have := hI.q12 (by simpa using h); simp [this], fun h => by have := hI.q14 (by simpa using h); simp [this], fun h => by have := hI.q16 (by simpa using h); simp [this], fun h => by have := hI.q17 (by simpa using h); simp [this], fun h i hi => by have := hI.late (by simpa using h) i hi; simp [this], fun h => by have := hI.late2 (by simpa using h); simp [this]⟩
          · simp [h18]
        · obtain rfl := Option.some.inj hoj
          have h7_ := hall ⟨7, .data⟩ (by simp) rfl
          have h6_ := hall ⟨6, .chain⟩ (by simp) rfl
          obtain rfl := hI.x7 h7_
          obtain rfl := hI.x6 h6_
          have h18 : f 18 = false := by
            cases h : f 18 with
            | false => rfl
            | true => exact absurd (hI.late h 8 (by omega)) (by rw [hfj]; simp)
          obtain rfl : wx = wy := by rw [hwx, h18]; rfl
          clear hwx
          have n10 : f 10 = false := by
            cases h : f 10 with
            | false => rfl
            | true => exact absurd (hI.q10 h) (by rw [hfj]; simp)
          have n12 : f 12 = false := by
            cases h : f 12 with
            | false => rfl
            | true => exact absurd (hI.q12 h) (by rw [n10]; simp)
          have n14 : f 14 = false := by
            cases h : f 14 with
            | false => rfl
            | true => exact absurd (hI.q14 h) (by rw [n12]; simp)
          have n16 : f 16 = false := by
            cases h : f 16 with
            | false => rfl
            | true => exact absurd (hI.q16 h) (by rw [n14]; simp)
          have n17 : f 17 = false := by
            cases h : f 17 with
            | false => rfl
            | true => exact absurd (hI.q17 h) (by rw [n16]; simp)
          have HI2 : Hid _ := And.intro hI True.intro
          clear hI
          go_simp
          go_at_call 34
          refine (HD1.out.2.2.1 wx HI2.out.1.bl).mono ?_
          rintro e w7 ⟨r, rfl, o7, b7⟩
          refine hK _ _ ?_
          refine ⟨_, _, _, _, _, _, _, _, _, _, _, _, _, _, _, _, _, _, w7, rfl, ?_, ?_⟩
          · have hI := HI2.out.1
            exact ⟨fun h => hI.x0 (by simpa using h), fun h => hI.x1 (by simpa using h), fun h => hI.x2 (by simpa using h), fun h => hI.x3 (by simpa using h), fun h => hI.x4 (by simpa using h), fun h => hI.x5 (by simpa using h), fun h => hI.x6 (by simpa using h), fun h => hI.x7 (by simpa using h), fun _ => owns_mono o7 hI.bl.size, fun h => hI.x9 (by simpa using h), fun h => by simp [n10] at h, fun h => hI.x11 (by simpa using h), fun h => by simp [n12] at h, fun h => hI.x13 (by simpa using h), fun h => by simp [n14] at h, fun h => hI.x15 (by simpa using h), fun h => by simp [n16] at h, fun h => by simp [n17] at h, hI.bl.trans (b7.mono hI.bl.size), fun h => by have := hI.q10 (by simpa using h); simp [this], fun h => by have := hI.q12 (by simpa using h); simp [this], fun h => by have := hI.q14 (by simpa using h); simp [this], fun h => by have := hI.q16 (by simpa using h); simp [this], fun h => by have := hI.q17 (by simpa using h); simp [this], fun h i hi => by have := hI.late (by simpa using h) i hi; simp [this], fun h => by have := hI.late2 (by simpa using h); simp [this]⟩
          · simp [h18]
        · obtain rfl := Option.some.inj hoj
          have h18 : f 18 = false := by
            cases h : f 18 with
            | false => rfl
            | true => exact absurd (hI.late h 9 (by omega)) (by rw [hfj]; simp)
          obtain rfl : wx = wy := by rw [hwx, h18]; rfl
          clear hwx
          have HI2 : Hid _ := And.intro hI True.intro
          clear hI
          go_simp
          refine hK _ _ ?_
          refine ⟨_, _, _, _, _, _, _, _, _, _, _, _, _, _, _, _, _, _, wx, rfl, ?_, ?_⟩
          · have hI := HI2.out.1
            exact ⟨fun h => hI.x0 (by simpa using h), fun h => hI.x1 (by simpa using h), fun h => hI.x2 (by simpa using h), fun h => hI.x3 (by simpa using h), fun h => hI.x4 (by simpa using h), fun h => hI.x5 (by simpa using h), fun h => hI.x6 (by simpa using h), fun h => hI.x7 (by simpa using h), fun h => hI.x8 (by simpa using h), fun _ => rfl, fun h => hI.x10 (by simpa using h), fun h => hI.x11 (by simpa using h), fun h => hI.x12 (by simpa using h), fun h => hI.x13 (by simpa using h), fun h => hI.x14 (by simpa using h), fun h => hI.x15 (by simpa using h), fun h => hI.x16 (by simpa using h), fun h => hI.x17 (by simpa using h), hI.bl, fun h => by have := hI.q10 (by simpa using h); simp [this], fun h => by have := hI.q12 (by simpa using h); simp [this], fun h => by have := hI.q14 (by simpa using h); simp [this], fun h => by have := hI.q16 (by simpa using h); simp [this], fun h => by have := hI.q17 (by simpa using h); simp [this], fun h i hi => by have := hI.late (by simpa using h) i hi; simp [this], fun h => by have := hI.late2 (by simpa using h); simp [this]⟩
          · simp [h18]
        · obtain rfl := Option.some.inj hoj
          have h9_ := hall ⟨9, .data⟩ (by simp) rfl
          have h8_ := hall ⟨8, .chain⟩ (by simp) rfl
          obtain rfl := hI.x9 h9_
          have h18 : f 18 = false := by
            cases h : f 18 with
            | false => rfl
            | true => exact absurd (hI.late h 10 (by omega)) (by rw [hfj]; simp)
          obtain rfl : wx = wy := by rw [hwx, h18]; rfl
          clear hwx
          have n12 : f 12 = false := by
            cases h : f 12 with
            | false => rfl
            | true => exact absurd (hI.q12 h) (by rw [hfj]; simp)
          have n14 : f 14 = false := by
            cases h : f 14 with
            | false => rfl
            | true => exact absurd (hI.q14 h) (by rw [n12]; simp)
          have n16 : f 16 = false := by
            cases h : f 16 with
            | false => rfl
            | true => exact absurd (hI.q16 h) (by rw [n14]; simp)
          have n17 : f 17 = false := by
            cases h : f 17 with
            | false => rfl
            | true => exact absurd (hI.q17 h) (by rw [n16]; simp)
          have HI2 : Hid _ := And.intro hI True.intro
          clear hI
          go_simp
          go_at_call 34
          refine (HD1.out.2.2.2.1 wx HI2.out.1.bl).mono ?_
          rintro e w7 ⟨r, rfl, o7, b7⟩
          refine hK _ _ ?_
          refine ⟨_, _, _, _, _, _, _, _, _, _, _, _, _, _, _, _, _, _, w7, rfl, ?_, ?_⟩
          · have hI := HI2.out.1
            have p8_ := h8_
            exact ⟨fun h => hI.x0 (by simpa using h), fun h => hI.x1 (by simpa using h), fun h => hI.x2 (by simpa using h), fun h => hI.x3 (by simpa using h), fun h => hI.x4 (by simpa using h), fun h => hI.x5 (by simpa using h), fun h => hI.x6 (by simpa using h), fun h => hI.x7 (by simpa using h), fun h => owns_below (hI.x8 (by simpa using h)) b7, fun h => hI.x9 (by simpa using h), fun _ => ⟨owns_mono o7 hI.bl.size, apart_old (hI.x8 p8_) o7⟩, fun h => hI.x11 (by simpa using h), fun h => by simp [n12] at h, fun h => hI.x13 (by simpa using h), fun h => by simp [n14] at h, fun h => hI.x15 (by simpa using h), fun h => by simp [n16] at h, fun h => by simp [n17] at h, hI.bl.trans (b7.mono hI.bl.size), fun _ => by simp [h8_], fun h => by have := hI.q12 (by simpa using h); simp [this], fun h => by have := hI.q14 (by simpa using h); simp [this], fun h => by have := hI.q16 (by simpa using h); simp [this], fun h => by have := hI.q17 (by simpa using h); simp [this], fun h i hi => by have := hI.late (by simpa using h) i hi; simp [this], fun h => by have := hI.late2 (by simpa using h); simp [this]⟩
          · simp [h18]
        · obtain rfl := Option.some.inj hoj
          have h18 : f 18 = false := by
            cases h : f 18 with
            | false => rfl
            | true => exact absurd (hI.late h 11 (by omega)) (by rw [hfj]; simp)
          obtain rfl : wx = wy := by rw [hwx, h18]; rfl
          clear hwx
          have HI2 : Hid _ := And.intro hI True.intro
          clear hI
          go_simp
          refine hK _ _ ?_
          refine ⟨_, _, _, _, _, _, _, _, _, _, _, _, _, _, _, _, _, _, wx, rfl, ?_, ?_⟩
          · have hI := HI2.out.1
            exact ⟨fun h => hI.x0 (by simpa using h), fun h => hI.x1 (by simpa using h), fun h => hI.x2 (by simpa using h), fun h => hI.x3 (by simpa using h), fun h => hI.x4 (by simpa using h), fun h => hI.x5 (by simpa using h), fun h => hI.x6 (by simpa using h), fun h => hI.x7 (by simpa using h), fun h => hI.x8 (by simpa using h), fun h => hI.x9 (by simpa using h), fun h => hI.x10 (by simpa using h), fun _ => rfl, fun h => hI.x12 (by simpa using h), fun h => hI.x13 (by simpa using h), fun h => hI.x14 (by simpa using h), fun h => hI.x15 (by simpa using h), fun h => hI.x16 (by simpa using h), fun h => hI.x17 (by simpa using h), hI.bl, fun h => by have := hI.q10 (by simpa using h); simp [this], fun h => by have := hI.q12 (by simpa using h); simp [this], fun h => by have := hI.q14 (by simpa using h); simp [this], fun h => by have := hI.q16 (by simpa using h); simp [this], fun h => by have := hI.q17 (by simpa using h); simp [this], fun h i hi => by have := hI.late (by simpa using h) i hi; simp [this], fun h => by have := hI.late2 (by simpa using h); simp [this]⟩
          · simp [h18]
        · obtain rfl := Option.some.inj hoj
          have h11_ := hall ⟨11, .data⟩ (by simp) rfl
          have h10_ := hall ⟨10, .chain⟩ (by simp) rfl
          obtain rfl := hI.x11 h11_
          have h18 : f 18 = false := by
            cases h : f 18 with
            | false => rfl
            | true => exact absurd (hI.late h 12 (by omega)) (by rw [hfj]; simp)
          obtain rfl : wx = wy := by rw [hwx, h18]; rfl
          clear hwx
          have n14 : f 14 = false := by
            cases h : f 14 with
            | false => rfl
            | true => exact absurd (hI.q14 h) (by rw [hfj]; simp)
          have n16 : f 16 = false := by
            cases h : f 16 with
            | false => rfl
            | true => exact absurd (hI.q16 h) (by rw [n14]; simp)
          have n17 : f 17 = false := by
            cases h : f 17 with
            | false => rfl
            | true => exact absurd (hI.q17 h) (by rw [n16]; simp)
          have HI2 : Hid _ := And.intro hI True.intro
          clear hI
          go_simp
          go_at_call 34
          refine (HD1.out.2.2.2.2.1 wx HI2.out.1.bl).mono ?_
          rintro e w7 ⟨r, rfl, o7, b7⟩
          refine hK _ _ ?_
          refine ⟨_, _, _, _, _, _, _, _, _, _, _, _, _, _, _, _, _, _, w7, rfl, ?_, ?_⟩
          · have hI := HI2.out.1
            have p10_ := h10_
            have p8_ := hI.q10 p10_
            exact ⟨fun h => hI.x0 (by simpa using h), fun h => hI.x1 (by simpa using h), fun h => hI.x2 (by simpa using h), fun h => hI.x3 (by simpa using h), fun h => hI.x4 (by simpa using h), fun h => hI.x5 (by simpa using h), fun h => hI.x6 (by simpa using h), fun h => hI.x7 (by simpa using h), fun h => owns_below (hI.x8 (by simpa using h)) b7, fun h => hI.x9 (by simpa using h), fun h => ⟨owns_below (hI.x10 (by simpa using h)).1 b7, (hI.x10 (by simpa using h)).2⟩, fun h => hI.x11 (by simpa using h), fun _ => ⟨owns_mono o7 hI.bl.size, apart_old (hI.x8 p8_) o7, apart_old (hI.x10 p10_).1 o7⟩, fun h => hI.x13 (by simpa using h), fun h => by simp [n14] at h, fun h => hI.x15 (by simpa using h), fun h => by simp [n16] at h, fun h => by simp [n17] at h, hI.bl.trans (b7.mono hI.bl.size), fun h => by have := hI.q10 (by simpa using h); simp [this], fun _ => by simp [h10_], fun h => by have := hI.q14 (by simpa using h); simp [this], fun h => by have := hI.q16 (by simpa using h); simp [this], fun h => by have := hI.q17 (by simpa using h); simp [this], fun h i hi => by have := hI.late (by simpa using h) i hi; simp [this], fun h => by have := hI.late2 (by simpa using h); simp [this]⟩
          · simp [h18]
        · obtain rfl := Option.some.inj hoj
          have h18 : f 18 = false := by
            cases h : f 18 with
            | false => rfl
            | true => exact absurd (hI.late h 13 (by omega)) (by rw [hfj]; simp)
          obtain rfl : wx = wy := by rw [hwx, h18]; rfl
          clear hwx
          have HI2 : Hid _ := And.intro hI True.intro
          clear hI
          go_simp
          refine hK _ _ ?_
          refine ⟨_, _, _, _, _, _, _, _, _, _, _, _, _, _, _, _, _, _, wx, rfl, ?_, ?_⟩
          · have hI := HI2.out.1
            exact ⟨fun h => hI.x0 (by simpa using h), fun h => hI.x1 (by simpa using h), fun h => hI.x2 (by simpa using h), fun h => hI.x3 (by simpa using h), fun h => hI.x4 (by simpa using h), fun h => hI.x5 (by simpa using h), fun h => hI.x6 (by simpa using h), fun h => hI.x7 (by simpa using h), fun h => hI.x8 (by simpa using h), fun h => hI.x9 (by simpa using h), fun h => hI.x10 (by simpa using h), fun h => hI.x11 (by simpa using h), fun h => hI.x12 (by simpa using h), fun _ => rfl, fun h => hI.x14 (by simpa using h), fun h => hI.x15 (by simpa using h), fun h => hI.x16 (by simpa using h), fun h => hI.x17 (by simpa using h), hI.bl, fun h => by have := hI.q10 (by simpa using h); simp [this], fun h => by have := hI.q12 (by simpa using h); simp [this], fun h => by have := hI.q14 (by simpa using h); simp [this], fun h => by have := hI.q16 (by simpa using h); simp [this], fun h => by have := hI.q17 (by simpa using h); simp [this], fun h i hi => by have := hI.late (by simpa using h) i hi; simp [this], fun h => by have := hI.late2 (by simpa using h); simp [this]⟩
          · simp [h18]
        · obtain rfl := Option.some.inj hoj
          have h13_ := hall ⟨13, .data⟩ (by simp) rfl
          have h12_ := hall ⟨12, .chain⟩ (by simp) rfl
          obtain rfl := hI.x13 h13_
          have h18 : f 18 = false := by
            cases h : f 18 with
            | false => rfl
            | true => exact absurd (hI.late h 14 (by omega)) (by rw [hfj]; simp)
          obtain rfl : wx = wy := by rw [hwx, h18]; rfl
          clear hwx
          have n16 : f 16 = false := by
            cases h : f 16 with
            | false => rfl
            | true => exact absurd (hI.q16 h) (by rw [hfj]; simp)
          have n17 : f 17 = false := by
            cases h : f 17 with
            | false => rfl
            | true => exact absurd (hI.q17 h) (by rw [n16]; simp)
          have HI2 : Hid _ := And.intro hI True.intro
          clear hI
          go_simp
          go_at_call 34
          refine (HD1.out.2.2.2.2.2.1 wx HI2.out.1.bl).mono ?_
          rintro e w7 ⟨r, rfl, o7, b7⟩
          refine hK _ _ ?_
          refine ⟨_, _, _, _, _, _, _, _, _, _, _, _, _, _, _, _, _, _, w7, rfl, ?_, ?_⟩
          · have hI := HI2.out.1
            have p12_ := h12_
            have p10_ := hI.q12 p12_
            have p8_ := hI.q10 p10_
            exact ⟨fun h => hI.x0 (by simpa using h), fun h => hI.x1 (by simpa using h), fun h => hI.x2 (by simpa using h), fun h => hI.x3 (by simpa using h), fun h => hI.x4 (by simpa using h), fun h => hI.x5 (by simpa using h), fun h => hI.x6 (by simpa using h), fun h => hI.x7 (by simpa using h), fun h => owns_below (hI.x8 (by simpa using h)) b7, fun h => hI.x9 (by simpa using h), fun h => ⟨owns_below (hI.x10 (by simpa using h)).1 b7, (hI.x10 (by simpa using h)).2⟩, fun h => hI.x11 (by simpa using h), fun h => ⟨owns_below (hI.x12 (by simpa using h)).1 b7, (hI.x12 (by simpa using h)).2⟩, fun h => hI.x13 (by simpa using h), fun _ => ⟨owns_mono o7 hI.bl.size, apart_old (hI.x8 p8_) o7, apart_old (hI.x10 p10_).1 o7, apart_old (hI.x12 p12_).1 o7⟩, fun h => hI.x15 (by simpa using h), fun h => by simp [n16] at h, fun h => by simp [n17] at h, hI.bl.trans (b7.mono hI.bl.size), fun h => by have := hI.q10 (by simpa using h); simp [this], fun h => by have := hI.q12 (by simpa using h); simp [this], fun _ => by simp [h12_], fun h => by have := hI.q16 (by simpa using h); simp [this], fun h => by have := hI.q17 (by simpa using h); simp [this], fun h i hi => by have := hI.late (by simpa using h) i hi; simp [this], fun h => by have := hI.late2 (by simpa using h); simp [this]⟩
          · simp [h18]
        · obtain rfl := Option.some.inj hoj
          have h18 : f 18 = false := by
            cases h : f 18 with
            | false => rfl
            | true => exact absurd (hI.late h 15 (by omega)) (by rw [hfj]; simp)
          obtain rfl : wx = wy := by rw [hwx, h18]; rfl
          clear hwx
          have HI2 : Hid _ := And.intro hI True.intro
          clear hI
          go_simp
          refine hK _ _ ?_
          refine ⟨_, _, _, _, _, _, _, _, _, _, _, _, _, _, _, _, _, _, wx, rfl, ?_, ?_⟩
          · have hI := HI2.out.1
            exact ⟨fun h => hI.x0 (by simpa using h), fun h => hI.x1 (by simpa using h), fun h => hI.x2 (by simpa using h), fun h => hI.x3 (by simpa using h), fun h => hI.x4 (by simpa using h), fun h => hI.x5 (by simpa using h), fun h => hI.x6 (by simpa using h), fun h => hI.x7 (by simpa using h), fun h => hI.x8 (by simpa using h), fun h => hI.x9 (by simpa using h), fun h => hI.x10 (by simpa using h), fun h => hI.x11 (by simpa using h), fun h => hI.x12 (by simpa using h), fun h => hI.x13 (by simpa using h), fun h => hI.x14 (by simpa using h), fun _ => rfl, fun h => hI.x16 (by simpa using h), fun h => hI.x17 (by simpa using h), hI.bl, fun h => by have := hI.q10 (by simpa using h); simp [this], fun h => by have := hI.q12 (by simpa using h); simp [this], fun h => by have := hI.q14 (by simpa using h); simp [this], fun h => by have := hI.q16 (by simpa using h); simp [this], fun h => by have := hI.q17 (by simpa using h); simp [this], fun h i hi => by have := hI.late (by simpa using h) i hi; simp [this], fun h => by have := hI.late2 (by simpa using h); simp [this]⟩
          · simp [h18]
        · obtain rfl := Option.some.inj hoj
          have h15_ := hall ⟨15, .data⟩ (by simp) rfl
          have h14_ := hall ⟨14, .chain⟩ (by simp) rfl
          obtain rfl := hI.x15 h15_
          have h18 : f 18 = false := by
            cases h : f 18 with
            | false => rfl
            | true => exact absurd (hI.late h 16 (by omega)) (by rw [hfj]; simp)
          obtain rfl : wx = wy := by rw [hwx, h18]; rfl
          clear hwx
          have n17 : f 17 = false := by
            cases h : f 17 with
            | false => rfl
            | true => exact absurd (hI.q17 h) (by rw [hfj]; simp)
          have HI2 : Hid _ := And.intro hI True.intro
          clear hI
          go_simp
          go_at_call 34
          refine (HD1.out.2.2.2.2.2.2 wx HI2.out.1.bl).mono ?_
          rintro e w7 ⟨r, rfl, o7, b7⟩
          refine hK _ _ ?_
          refine ⟨_, _, _, _, _, _, _, _, _, _, _, _, _, _, _, _, _, _, w7, rfl, ?_, ?_⟩
          · have hI := HI2.out.1
            have p14_ := h14_
            have p12_ := hI.q14 p14_
            have p10_ := hI.q12 p12_
            have p8_ := hI.q10 p10_
            exact ⟨fun h => hI.x0 (by simpa using h), fun h => hI.x1 (by simpa using h), fun h => hI.x2 (by simpa using h), fun h => hI.x3 (by simpa using h), fun h => hI.x4 (by simpa using h), fun h => hI.x5 (by simpa using h), fun h => hI.x6 (by simpa using h), fun h => hI.x7 (by simpa using h), fun h => owns_below (hI.x8 (by simpa using h)) b7, fun h => hI.x9 (by simpa using h), fun h => ⟨owns_below (hI.x10 (by simpa using h)).1 b7, (hI.x10 (by simpa using h)).2⟩, fun h => hI.x11 (by simpa using h), fun h => ⟨owns_below (hI.x12 (by simpa using h)).1 b7, (hI.x12 (by simpa using h)).2⟩, fun h => hI.x13 (by simpa using h), fun h => ⟨owns_below (hI.x14 (by simpa using h)).1 b7, (hI.x14 (by simpa using h)).2⟩, fun h => hI.x15 (by simpa using h), fun _ => ⟨owns_mono o7 hI.bl.size, apart_old (hI.x8 p8_) o7, apart_old (hI.x10 p10_).1 o7, apart_old (hI.x12 p12_).1 o7, apart_old (hI.x14 p14_).1 o7⟩, fun h => by simp [n17] at h, hI.bl.trans (b7.mono hI.bl.size), fun h => by have := hI.q10 (by simpa using h); simp [this], fun h => by have := hI.q12 (by simpa using h); simp [this], fun h => by have := hI.q14 (by simpa using h); simp [this], fun _ => by simp [h14_], fun h => by have := hI.q17 (by simpa using h); simp [this], fun h i hi => by have := hI.late (by simpa using h) i hi; simp [this], fun h => by have := hI.late2 (by simpa using h); simp [this]⟩
          · simp [h18]
        · obtain rfl := Option.some.inj hoj
          have h1_ := hall ⟨1, .data⟩ (by simp) rfl
          have h6_ := hall ⟨6, .data⟩ (by simp) rfl
          have h8_ := hall ⟨8, .data⟩ (by simp) rfl
          have h10_ := hall ⟨10, .data⟩ (by simp) rfl
          have h12_ := hall ⟨12, .data⟩ (by simp) rfl
          have h14_ := hall ⟨14, .data⟩ (by simp) rfl
          have h16_ := hall ⟨16, .data⟩ (by simp) rfl
          obtain rfl := hI.x1 h1_
          obtain rfl := hI.x6 h6_
          have h18 : f 18 = false := by
            cases h : f 18 with
            | false => rfl
            | true => exact absurd (hI.late h 17 (by omega)) (by rw [hfj]; simp)
          obtain rfl : wx = wy := by rw [hwx, h18]; rfl
          clear hwx
          obtain ⟨s75, t75, e75⟩ := own_formA (hI.x8 h8_)
          subst e75
          obtain ⟨s77, t77, e77⟩ := own_formA (hI.x10 h10_).1
          subst e77
          obtain ⟨s79, t79, e79⟩ := own_formA (hI.x12 h12_).1
          subst e79
          obtain ⟨s81, t81, e81⟩ := own_formA (hI.x14 h14_).1
          subst e81
          obtain ⟨s83, t83, e83⟩ := own_formA (hI.x16 h16_).1
          subst e83
          have HI2 : Hid _ := And.intro hI True.intro
          clear hI
          go_simp
          refine hK _ _ ?_
          refine ⟨_, _, _, _, _, _, _, _, _, _, _, _, _, _, _, _, _, _, wx, rfl, ?_, ?_⟩
          · have hI := HI2.out.1
            exact ⟨fun h => hI.x0 (by simpa using h), fun h => hI.x1 (by simpa using h), fun h => hI.x2 (by simpa using h), fun h => hI.x3 (by simpa using h), fun h => hI.x4 (by simpa using h), fun h => hI.x5 (by simpa using h), fun h => hI.x6 (by simpa using h), fun h => hI.x7 (by simpa using h), fun h => hI.x8 (by simpa using h), fun h => hI.x9 (by simpa using h), fun h => hI.x10 (by simpa using h), fun h => hI.x11 (by simpa using h), fun h => hI.x12 (by simpa using h), fun h => hI.x13 (by simpa using h), fun h => hI.x14 (by simpa using h), fun h => hI.x15 (by simpa using h), fun h => hI.x16 (by simpa using h), fun _ => rfl, hI.bl, fun h => by have := hI.q10 (by simpa using h); simp [this], fun h => by have := hI.q12 (by simpa using h); simp [this], fun h => by have := hI.q14 (by simpa using h); simp [this], fun h => by have := hI.q16 (by simpa using h); simp [this], fun _ => by simp [h16_], fun h i hi => by have := hI.late (by simpa using h) i hi; simp [this], fun h => by have := hI.late2 (by simpa using h); simp [this]⟩
          · simp [h18]
        · obtain rfl := Option.some.inj hoj
          have h17_ := hall ⟨17, .data⟩ (by simp) rfl
          have h16_ := hall ⟨16, .chain⟩ (by simp) rfl
          obtain rfl := hI.x17 h17_
          have h18 : f 18 = false := hfj
          obtain rfl : wx = wy := by rw [hwx, h18]; rfl
          clear hwx
          have h8_ := hall ⟨8, .phase⟩ (by simp) rfl
          have h10_ := hall ⟨10, .phase⟩ (by simp) rfl
          have h12_ := hall ⟨12, .phase⟩ (by simp) rfl
          have h14_ := hall ⟨14, .phase⟩ (by simp) rfl
          obtain ⟨s75, t75, e75⟩ := own_formA (hI.x8 h8_)
          subst e75
          obtain ⟨s77, t77, e77⟩ := own_formA (hI.x10 h10_).1
          subst e77
          obtain ⟨s79, t79, e79⟩ := own_formA (hI.x12 h12_).1
          subst e79
          obtain ⟨s81, t81, e81⟩ := own_formA (hI.x14 h14_).1
          subst e81
          obtain ⟨s83, t83, e83⟩ := own_formA (hI.x16 h16_).1
          subst e83
          have t9 := (hI.bl.block _ lg6).trans H9.out.2.2.1
          have fz0 := bk_free t9 0
          have fz1 := bk_free t9 1
          have fz2 := bk_free t9 2
          have fz3 := bk_free t9 3
          have fz4 := bk_free t9 4
          have fz5 := bk_free t9 5
          have fz6 := bk_free t9 6
          have cz0 := bk_cell t9 0
          have cz1 := bk_cell t9 1
          have cz2 := bk_cell t9 2
          have cz3 := bk_cell t9 3
          have cz4 := bk_cell t9 4
          have cz5 := bk_cell t9 5
          have cz6 := bk_cell t9 6
          have HI2 : Hid _ := And.intro hI True.intro
          clear hI
          go_simp
          refine hK _ _ ?_
          refine ⟨_, _, _, _, _, _, _, _, _, _, _, _, _, _, _, _, _, _, wx, rfl, ?_, ?_⟩
          · have hI := HI2.out.1
            have hAll : ∀ i, i < 18 → f i = true := by
              intro i hi
              obtain rfl | rfl | rfl | rfl | rfl | rfl | rfl | rfl | rfl | rfl | rfl | rfl | rfl | rfl | rfl | rfl | rfl | rfl : i = 0 ∨ i = 1 ∨ i = 2 ∨ i = 3 ∨ i = 4 ∨ i = 5 ∨ i = 6 ∨ i = 7 ∨ i = 8 ∨ i = 9 ∨ i = 10 ∨ i = 11 ∨ i = 12 ∨ i = 13 ∨ i = 14 ∨ i = 15 ∨ i = 16 ∨ i = 17 := by omega
              all_goals exact hall ⟨_, .phase⟩ (by simp) rfl
            exact ⟨fun h => hI.x0 (by simpa using h), fun h => hI.x1 (by simpa using h), fun h => hI.x2 (by simpa using h), fun h => hI.x3 (by simpa using h), fun h => hI.x4 (by simpa using h), fun h => hI.x5 (by simpa using h), fun h => hI.x6 (by simpa using h), fun h => hI.x7 (by simpa using h), fun h => hI.x8 (by simpa using h), fun h => hI.x9 (by simpa using h), fun h => hI.x10 (by simpa using h), fun h => hI.x11 (by simpa using h), fun h => hI.x12 (by simpa using h), fun h => hI.x13 (by simpa using h), fun h => hI.x14 (by simpa using h), fun h => hI.x15 (by simpa using h), fun h => hI.x16 (by simpa using h), fun h => hI.x17 (by simpa using h), hI.bl, fun h => by have := hI.q10 (by simpa using h); simp [this], fun h => by have := hI.q12 (by simpa using h); simp [this], fun h => by have := hI.q14 (by simpa using h); simp [this], fun h => by have := hI.q16 (by simpa using h); simp [this], fun h => by have := hI.q17 (by simpa using h); simp [this], fun _ i hi => by have := hAll i hi; simp [this], fun _ => by simp⟩
          · simp [put7A]
        · obtain rfl := Option.some.inj hoj
          have h18_ : f 18 = true := hall ⟨18, .chain⟩ (by simp) rfl
          have HI2 : Hid _ := And.intro hI hwx
          clear hI hwx cA cB cC
          go_simp
          refine hK _ _ ?_
          refine ⟨_, _, _, _, _, _, _, _, _, _, _, _, _, _, _, _, _, _, wy, rfl, ?_, ?_⟩
          · have hI := HI2.out.1
            exact ⟨fun h => hI.x0 (by simpa using h), fun h => hI.x1 (by simpa using h), fun h => hI.x2 (by simpa using h), fun h => hI.x3 (by simpa using h), fun h => hI.x4 (by simpa using h), fun h => hI.x5 (by simpa using h), fun h => hI.x6 (by simpa using h), fun h => hI.x7 (by simpa using h), fun h => hI.x8 (by simpa using h), fun h => hI.x9 (by simpa using h), fun h => hI.x10 (by simpa using h), fun h => hI.x11 (by simpa using h), fun h => hI.x12 (by simpa using h), fun h => hI.x13 (by simpa using h), fun h => hI.x14 (by simpa using h), fun h => hI.x15 (by simpa using h), fun h => hI.x16 (by simpa using h), fun h => hI.x17 (by simpa using h), hI.bl, fun h => by have := hI.q10 (by simpa using h); simp [this], fun h => by have := hI.q12 (by simpa using h); simp [this], fun h => by have := hI.q14 (by simpa using h); simp [this], fun h => by have := hI.q16 (by simpa using h); simp [this], fun h => by have := hI.q17 (by simpa using h); simp [this], fun _ i hi => by have := hI.late h18_ i hi; simp [this], fun _ => by simp [h18_]⟩
          · rw [HI2.out.2]; simp [h18_]
      case done =>
        intro f a wx hInv hall
        obtain ⟨u67, u68, u69, u70, u71, u72, u73, u74, u75, u76, u77, u78, u79, u80, u81, u82, u83, u84, wy, rfl, hI, hwx⟩ := hInv
        have h8 := hI.x8 (hall 8 (by decide))
        obtain ⟨h10, p1⟩ := hI.x10 (hall 10 (by decide))
        obtain ⟨h12, p2, p3⟩ := hI.x12 (hall 12 (by decide))
        obtain ⟨h14, p4, p5, p6⟩ := hI.x14 (hall 14 (by decide))
        obtain ⟨h16, p7, p8, p9, p10⟩ := hI.x16 (hall 16 (by decide))
        rw [hall 18 (by decide), if_pos rfl] at hwx
        have t9 := (hI.bl.block _ lg6).trans H9.out.2.2.1
        have hk : wx.heap[w.heap.size + 1 + 1]? = some (.cells #[.int .i64 vr, .string N0, u75, u77, u79, u81, u83] 31 (0, 0)) := by rw [hwx]; exact put7A_heap t9 _ _ _ _ _ _ _
        have AO : AGOwn wy w9.heap.size u75 u77 u79 u81 u83 ⟨vr, N0, L1, L2, L3, L4, L5⟩ := ⟨h8, h10, h12, h14, h16, by
          simp only [List.pairwise_cons, List.mem_cons, List.not_mem_nil, or_false, forall_eq_or_imp, forall_eq]
          exact ⟨⟨p1, p2, p4, p7⟩, ⟨p3, p5, p8⟩, ⟨p6, p9⟩, p10, by simp⟩⟩
        have eR : agR ss c s = ⟨vr, N0, L1, L2, L3, L4, L5⟩ := by
          obtain ⟨e1, e2, e3, e4, e5⟩ := HL5.out
          unfold agR
          rw [if_pos ⟨HD.out.2.2.2.2.1, HP.out.2.2.2.2.2⟩, e1, e2, e3, e4, e5, HP.out.2.1, HD.out.2.2.2.2.2.2.2.2.2.1, HD.out.2.2.2.2.2.2.2.2.2.2]
          rfl
        have eC : agC ss c s = 0 := by unfold agC; rw [if_pos HD.out.2.2.2.2.1, if_pos HP.out.2.2.2.2.2]
        have bw : w.heap.size ≤ w9.heap.size := Nat.le_trans HW.out.2.2.1.size (Nat.le_trans H2.out.1.size H9.out.1.size)
        have b1 : Below w.heap.size w w9 := (HW.out.2.2.1.trans (H2.out.1.mono HW.out.2.2.1.size)).trans (H9.out.1.mono (Nat.le_trans HW.out.2.2.1.size H2.out.1.size))
        have b2 : Below w.heap.size w wx := by
          rw [hwx]
          exact (b1.trans (hI.bl.mono bw)).grown (put7A_grown _ _ _ _ _ _ _ _ _) (Nat.le_trans bw hI.bl.size) (fun q hq => by have := Option.some.inj hq; omega)
        have AX : AGOwns wx w.heap.size (.agg #[.int .i64 vr, .string N0, u75, u77, u79, u81, u83]) (agR ss c s) := by
          rw [eR, hwx]
          exact AGOwns.mono (base := w9.heap.size) ⟨_, _, _, _, _, rfl, AO.blkA (put7A_grown _ _ _ _ _ _ _ _ _) t9⟩ bw
        have HX : Hid _ := And.intro AX (And.intro b2 (And.intro hk eC))
        clear hI h8 h10 p1 h12 p2 p3 h14 p4 p5 p6 h16 p7 p8 p9 p10 hwx t9 hk AO eR eC bw b1 b2 AX hall
        dsimp only
        go_wp2_with fail
        refine bodyPost_ret (v := .tuple #[.agg #[.int .i64 vr, .string N0, u75, u77, u79, u81, u83], .int .i64 0]) ?_ rfl ?_
        · exact results_rtA (t := 31) rfl _ _ (w.heap.size + 1 + 1) _ (fr := (0, 0)) _ _ rfl rfl HX.out.2.2.1 Tryz.underlying31 rfl infoAG7
        · rw [HX.out.2.2.2]
          exact ⟨_, rfl, HX.out.1, HX.out.2.1⟩
end Go.Proofs.YteggfkekgdlecaaGreatDoor
