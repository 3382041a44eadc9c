import Derived.Test.YteggfkekgdlecaaGreatDoorAg_S
namespace Go.Proofs.YteggfkekgdlecaaGreatDoor
open Go.RowKit
set_option linter.unusedVariables false
set_option linter.unusedSimpArgs false

/-- Amid the statement: what has come up holds what it should. -/
structure PG (W0 : World) (g2 tb tf q2 : Nat) (vr : Int) (N0 : ByteArray) (rv : Value) (L1 L2 : List Int) (f : Nat → Bool) (w : World) (u15 u87 u88 u89 u90 u91 u92 u93 u94 u95 u96 u97 : Value) : Prop where
  x0 : f 0 = true → u87 = .pointer (some ⟨g2, 1, none⟩)
  x1 : f 1 = true → u88 = .int .i64 vr
  x2 : f 2 = true → u89 = .pointer (some ⟨g2, 4, none⟩)
  x3 : f 3 = true → u90 = .slice (some ⟨tb, tf, none⟩) 1 q2
  x4 : f 4 = true → u91 = .pointer (some ⟨tb, tf, none⟩)
  x5 : f 5 = true → u92 = .string N0
  x6 : f 6 = true → u93 = rv
  x7 : f 7 = true → w.ownsRow W0.heap.size 5 1 u94 L1.length (L1.map (Value.int .u8))
  x8 : f 8 = true → u95 = rv
  x9 : f 9 = true → w.ownsRow W0.heap.size 5 1 u96 L2.length (L2.map (Value.int .u8)) ∧ Apart u94 u96
  x10 : f 10 = true → u97 = .agg #[.int .i64 vr, .string N0, u94, u96, .slice none 0 0, .slice none 0 0, .slice none 0 0]
  x11 : f 11 = true → ∃ b : Nat, u15 = .pointer (some ⟨b, 0, none⟩) ∧ W0.heap.size ≤ b ∧ w.heap[b]? = some (.cells (if f 12 = true then #[.int .i64 vr, .string N0, u94, u96, .slice none 0 0, .slice none 0 0, .slice none 0 0] else #[.int .i64 0, .string ⟨#[]⟩, .slice none 0 0, .slice none 0 0, .slice none 0 0, .slice none 0 0, .slice none 0 0]) 31 (0, 0))
  bl : Below W0.heap.size W0 w
  q9 : f 9 = true → f 7 = true
  q10 : f 10 = true → f 7 = true ∧ f 9 = true
  late : f 12 = true → ∀ i, i < 12 → f i = true
set_option maxRecDepth 20000 in
set_option maxHeartbeats 40000000 in
theorem agS (vs v1 v2 : Value) (ss : List Int) (c s : HE) (w : World) (rs : Row w .u8 vs ss) (bs : Bytes ss) (ls : ss.length ≤ 1048576) (rc : HERow w v1 c) (rS : HERow w v2 s) (sc : c.small 9223372036854775807) (sS : s.small 9223372036854775807) (kc : Bytes c.rnd ∧ c.par.bytes) (kS : Bytes s.rnd ∧ s.par.bytes) :
    Calls Tryz.prog 5 #[vs, v1, v2] w fun e w' => ∃ r, e = .returned (.tuple #[r, .int .i64 (agC ss c s)]) ∧ AGOwns w' w.heap.size r (agR ss c s) ∧ Below w.heap.size w w' := by
  obtain ⟨C1, C2, a1, b1, b2, p1, q1, q2, rfl, rfl, T, BW, hsz, oc1, oc2⟩ := twoH_new rc rS
  obtain ⟨W, eW⟩ : ∃ W, W = agW w C1 C2 := ⟨_, rfl⟩
  have G3 : W.heap[w.heap.size + 1 + 1]? = some (.cells #[.int .i64 0, .string ⟨#[]⟩, .slice none 0 0, .slice none 0 0, .slice none 0 0, .slice none 0 0, .slice none 0 0] 31 (0, 0)) := by rw [eW]; exact (bk_new3 w _ _ _).2.2
  rw [← eW] at T BW hsz
  obtain ⟨a0, p0, evs⟩ := rs.form
  subst evs
  have SZ1 : Hid ((Tryz.prog.info? 37).map (·.size) = some C1.size) := by show _ = _; rw [T.sz.1]; exact infoHel18
  have SZ2 : Hid ((Tryz.prog.info? 37).map (·.size) = some C2.size) := by show _ = _; rw [T.sz.2]; exact infoHel18
  have CK1 : ∀ w1, Below W.heap.size W w1 → Calls Tryz.prog 20 #[.agg C1] w1 fun e w' => e = .returned (.bool (decide (heOK c))) ∧ Below w1.heap.size w1 w' := fun w1 b => hokS _ c w1 (T.below b).h1 sc
  have CK2 : ∀ w1, Below W.heap.size W w1 → Calls Tryz.prog 20 #[.agg C2] w1 fun e w' => e = .returned (.bool (decide (heOK s))) ∧ Below w1.heap.size w1 w' := fun w1 b => hokS _ s w1 (T.below b).h2 sS
  have HW : Hid _ := And.intro eW (And.intro T (And.intro BW (And.intro G3 (And.intro CK1 (And.intro CK2 (And.intro (rs.below BW) (And.intro bs (And.intro kc kS))))))))
  obtain ⟨n0, en0⟩ : ∃ n, n = ss.length := ⟨_, rfl⟩
  have HN : Hid _ := And.intro en0 (And.intro sc sS)
  rw [← en0] at ls ⊢
  obtain ⟨oc, eoc⟩ : ∃ b, b = decide (heOK c) := ⟨_, rfl⟩
  obtain ⟨os, eos⟩ : ∃ b, b = decide (heOK s) := ⟨_, rfl⟩
  rw [← eoc] at CK1
  rw [← eos] at CK2
  have HK : Hid _ := And.intro CK1 (And.intro CK2 (And.intro eoc eos))
  obtain ⟨k0, -, -, k1, -, -⟩ := T.cells
  have HT : Hid _ := And.intro T True.intro
  clear eW T BW G3 CK1 CK2 rs bs kc kS rc rS sc sS en0 eoc eos
  go_enter Tryz.func5, Tryz.ntmps5
  go_upto_region 1 with fail
  rw [show (((w.alloc (.cells C1 37)).alloc (.cells C2 37)).alloc (.cells #[.int .i64 0, .string ⟨#[]⟩, .slice none 0 0, .slice none 0 0, .slice none 0 0, .slice none 0 0, .slice none 0 0] 31)) = W from HW.out.1.symm]
  go_cut [38] from 16 to 108 (fun v38 wx => v38 = .bool (!decide (agG ss c s)) ∧ Below W.heap.size W wx)
  case first =>
    by_cases h16 : n0 = 16
    case neg =>
      have f0 : ((n0 : Int) != 16) = true := by simp; omega
      have hno : Hid (decide (agG ss c s) = false) := decide_eq_false (fun h => h16 (HN.out.1.trans h.1))
      go_wp2_with fail
      go_meet
      rw [hno.out]
      exact ⟨rfl, Below.refl _ _⟩
    subst h16
    by_cases hk1 : c.kd = 1
    case neg =>
      have f1 : (c.kd != 1) = true := by simpa using hk1
      have hno : Hid (decide (agG ss c s) = false) := decide_eq_false (fun h => hk1 h.2.1)
      go_wp2_with fail
      go_meet
      rw [hno.out]
      exact ⟨rfl, Below.refl _ _⟩
    rw [hk1] at k0
    by_cases hk2 : s.kd = 2
    case neg =>
      have f1 : (s.kd != 2) = true := by simpa using hk2
      have hno : Hid (decide (agG ss c s) = false) := decide_eq_false (fun h => hk2 h.2.2.1)
      go_wp2_with fail
      go_meet
      rw [hno.out]
      exact ⟨rfl, Below.refl _ _⟩
    rw [hk2] at k1
    have hG : Hid (decide (agG ss c s) = (oc && os)) := by
      show _ = _
      rw [HK.out.2.2.1, HK.out.2.2.2]
      unfold agG
      simp [← HN.out.1, hk1, hk2]
    clear hk1 hk2
    go_wp2_with (refine wpList_load_rowG (by rfl) 37 (.tmp 4) rfl w.heap.size rfl 37 C1 (0, 0) _ HT.out.1.b1' Tryz.underlying37 rfl SZ1.out ?_)
    go_at_call 20
    refine (HK.out.1 W (Below.refl _ _)).mono ?_
    rintro e w1 ⟨rfl, w1b⟩
    have HB1 : Hid _ := And.intro w1b (HT.out.1.below w1b)
    clear w1b
    cases oc with
    | false =>
      go_wp2_with fail
      go_meet
      rw [hG.out]
      exact ⟨rfl, HB1.out.1⟩
    | true =>
      go_wp2_with (refine wpList_load_rowG (by rfl) 37 (.tmp 5) rfl (w.heap.size + 1) rfl 37 C2 (0, 0) _ HB1.out.2.b2' Tryz.underlying37 rfl SZ2.out ?_)
      go_at_call 20
      refine (HK.out.2.1 w1 HB1.out.1).mono ?_
      rintro e w2 ⟨rfl, w2b⟩
      have HB2 : Hid _ := And.intro (HB1.out.1.trans (w2b.mono HB1.out.1.size)) True.intro
      clear w2b
      cases os with
      | false =>
        go_wp2_with fail
        go_meet
        rw [hG.out]
        exact ⟨rfl, HB2.out.1⟩
      | true =>
        go_wp2_with fail
        go_meet
        rw [hG.out]
        exact ⟨rfl, HB2.out.1⟩
  case rest =>
  obtain ⟨rfl, B1⟩ := hcut
  have T1 := HT.out.1.below B1
  have g3 : wc.heap[w.heap.size + 1 + 1]? = some (.cells #[.int .i64 0, .string ⟨#[]⟩, .slice none 0 0, .slice none 0 0, .slice none 0 0, .slice none 0 0, .slice none 0 0] 31 (0, 0)) := (B1.block _ (Array.getElem?_eq_some_iff.1 HW.out.2.2.2.1).1).trans HW.out.2.2.2.1
  by_cases hG : agG ss c s
  case neg =>
    have eC : agC ss c s = 1 := by unfold agC; rw [if_neg hG]
    have eR : agR ss c s = AG.zero := by unfold agR; rw [if_neg (fun q => hG q.1)]
    have HE : Hid _ := And.intro eC eR
    have hd : decide (agG ss c s) = false := decide_eq_false hG
    rw [hd]
    have HG3 : Hid _ := And.intro g3 B1
    have fz := fun k => bk_free g3 k
    have cz := fun k => bk_cell g3 k
    clear eC eR hd hG k0 k1 T1 B1
    go_wp2_with fail
    refine bodyPost_ret (v := .tuple #[.agg #[.int .i64 0, .string ⟨#[]⟩, .slice none 0 0, .slice none 0 0, .slice none 0 0, .slice none 0 0, .slice none 0 0], .int .i64 1]) ?_ rfl ?_
    · exact results_rtA (t := 31) rfl _ _ (w.heap.size + 1 + 1) _ (fr := (0, 0)) _ _ rfl rfl (put7A_heap HG3.out.1 _ _ _ _ _ _ _) Tryz.underlying31 rfl infoAG7
    · rw [HE.out.1, HE.out.2]
      exact ⟨_, rfl, agZero _ _, (HW.out.2.2.1.trans (HG3.out.2.mono HW.out.2.2.1.size)).grown (put7A_grown _ _ _ _ _ _ _ _ _) (Nat.le_trans HW.out.2.2.1.size HG3.out.2.size) (fun q hq => by have := Option.some.inj hq; omega)⟩
  have hd : decide (agG ss c s) = true := decide_eq_true hG
  rw [hd]
  obtain ⟨v8, v1, m4, m1, r1, r2⟩ := agG_facts hG
  obtain ⟨nv, env⟩ : ∃ n, n = c.vers.length := ⟨_, rfl⟩
  obtain ⟨nn, enn⟩ : ∃ n, n = c.nms.length := ⟨_, rfl⟩
  obtain ⟨vr, evr⟩ : ∃ n, n = s.vr := ⟨_, rfl⟩
  obtain ⟨N0, eN0⟩ : ∃ n, n = s.nms.getD 0 ByteArray.empty := ⟨_, rfl⟩
  obtain ⟨tb0, ct0, et0, hc0⟩ := T1.t2.cells
  obtain ⟨tb, tf, etb, htb, hcn⟩ := hc0 0 (by omega)
  subst etb
  have eb2 : b2 = some ⟨tb, tf, none⟩ := by injection et0
  subst eb2
  obtain ⟨ao1, ca1, ea1, hcm⟩ := T1.t1.cells
  have eb1 : ao1 = b1 := by injection ea1 with h; exact h.symm
  subst eb1
  rw [← eN0, Nat.add_zero] at hcn
  rw [← enn] at hcm
  have CE : ∀ wx, Below wc.heap.size wc wx → wx.cell? ⟨w.heap.size, 3, none⟩ = some (.slice a1 nv p1) ∧ wx.cell? ⟨w.heap.size, 4, none⟩ = some (.slice ao1 nn q1) ∧ wx.cell? ⟨w.heap.size + 1, 1, none⟩ = some (.int .i64 vr) ∧ wx.cell? ⟨w.heap.size + 1, 4, none⟩ = some (.slice (some ⟨tb, tf, none⟩) 1 q2) ∧ wx.cell? ⟨tb, tf, none⟩ = some (.string N0) := fun wx b => by
    obtain ⟨j0, j1, j2, j3, j4, j5⟩ := (T1.below b).cells
    rw [← env] at j1
    rw [← enn] at j2
    rw [← evr] at j4
    rw [m1] at j5
    exact ⟨j1, j2, j4, j5, (b.cell (p := ⟨tb, tf, none⟩) htb).trans hcn⟩
  have GE : ∀ wx, Below wc.heap.size wc wx → wx.heap[w.heap.size + 1 + 1]? = some (.cells #[.int .i64 0, .string ⟨#[]⟩, .slice none 0 0, .slice none 0 0, .slice none 0 0, .slice none 0 0, .slice none 0 0] 31 (0, 0)) := fun wx b => (b.block _ (Array.getElem?_eq_some_iff.1 g3).1).trans g3
  have h16 : n0 = 16 := HN.out.1.trans hG.1
  subst h16
  have HD : Hid _ := And.intro CE (And.intro GE (And.intro T1 (And.intro B1 (And.intro hG (And.intro hcm (And.intro env (And.intro enn (And.intro evr eN0))))))))
  have hnn : nn ≤ 4 := by omega
  obtain ⟨y3, y4, y1, y5, y6⟩ := CE wc (Below.refl _ _)
  clear CE GE T1 B1 hG hcm env enn evr eN0 hd g3 k0 k1 hcn hc0 et0 ea1 v8 v1 m4 m1
  go_wp2_with fail
  go_loopg [8, 9] nn (fun q bv iv wx => ∃ k : Nat, k ≤ nn ∧ q = nn - k ∧ iv = .int .i64 (k : Int) ∧ bv = .bool (agNk c s k) ∧ ∃ z, wx = wc.drewN z)
  case atStart => exact ⟨0, Nat.zero_le _, rfl, rfl, rfl, 0, rfl⟩
  case round =>
    obtain ⟨k, hk, hq, rfl, rfl, z, rfl⟩ := hrel
    obtain ⟨bk, ebk⟩ : ∃ b, b = agNk c s k := ⟨_, rfl⟩
    rw [← ebk]
    have HK2 : Hid _ := And.intro ebk hq
    clear ebk hq
    by_cases hlt : k < nn
    · obtain ⟨nb, no, rfl, hnb, hcx⟩ := HD.out.2.2.2.2.2.1 k hlt
      obtain ⟨Nk, eNk⟩ : ∃ n, n = c.nms.getD k ByteArray.empty := ⟨_, rfl⟩
      rw [← eNk] at hcx
      have es : agNk c s (k + 1) = (bk || decide (Nk.data = N0.data)) := by rw [HK2.out.1, eNk, HD.out.2.2.2.2.2.2.2.2.2]; rfl
      cases bk with
      | true =>
        as_aux_lemma =>
        have HS : Hid _ := es
        clear es eNk
        go_upto_region 7 with fail
        go_quiet (fail)
        go_wp2_with fail
        go_roundg (nn - (k + 1))
        case measure => (have := HK2.out.2; omega)
        case rel => exact ⟨k + 1, by omega, by omega, by go_num, by rw [HS.out]; rfl, _, rfl⟩
      | false =>
        by_cases he : Nk.data = N0.data
        · as_aux_lemma =>
          have f1 := beq_yes he
          have f2 := tl_yes he
          have HS : Hid _ := And.intro es (decide_eq_true he)
          clear es eNk he
          go_upto_region 7 with fail
          go_quiet (fail)
          go_wp2_with fail
          go_roundg (nn - (k + 1))
          case measure => (have := HK2.out.2; omega)
          case rel => exact ⟨k + 1, by omega, by omega, by go_num, by rw [HS.out.1, HS.out.2]; rfl, _, rfl⟩
        · as_aux_lemma =>
          have f1 := beq_no he
          have f2 := tl_no he
          have HS : Hid _ := And.intro es (decide_eq_false he)
          clear es eNk he
          go_upto_region 7 with fail
          go_quiet (fail)
          go_wp2_with fail
          go_roundg (nn - (k + 1))
          case measure => (have := HK2.out.2; omega)
          case rel => exact ⟨k + 1, by omega, by omega, by go_num, by rw [HS.out.1, HS.out.2]; rfl, _, rfl⟩
    · have hkn : ¬ (k : Int) < (nn : Int) := by omega
      have hke : k = nn := by omega
      have hbk : bk = decide (agN c s) := by rw [HK2.out.1, hke, HD.out.2.2.2.2.2.2.2.1, agNk_n]
      obtain ⟨wd, ewd⟩ : ∃ wd, wd = wc.drewN z := ⟨_, rfl⟩
      rw [← ewd]
      have bz : Below wc.heap.size wc wd := by rw [ewd]; exact below_drewN (Below.refl _ _) z
      clear ewd y3 y4 y1 y5 y6
      obtain ⟨y3, y4, y1, y5, y6⟩ := HD.out.1 _ bz
      have GZ := HD.out.2.1 _ bz
      have BZ := HD.out.2.2.2.1.trans (bz.mono HD.out.2.2.2.1.size)
      by_cases hN : agN c s
      case neg =>
        as_aux_lemma =>
        rw [decide_eq_false hN] at hbk
        subst hbk
        have HE : Hid _ := And.intro (show agC ss c s = 12 by unfold agC; rw [if_pos HD.out.2.2.2.2.1, if_neg (fun q => hN q.1)]) (show agR ss c s = AG.zero by unfold agR; rw [if_neg (fun q => hN q.2.1)])
        have HZ : Hid _ := And.intro GZ BZ
        have fz := fun k => bk_free GZ k
        have cz := fun k => bk_cell GZ k
        clear hN GZ BZ bz hke
        go_upto_if 70 with fail
        clear y3 y4 y1 y5 y6 fz cz
        go_wp2_with (refine wpList_store_row rfl 31 _ _ rfl (w.heap.size + 1 + 1) #[.int .i64 0, .string ⟨#[]⟩, .slice none 0 0, .slice none 0 0, .slice none 0 0, .slice none 0 0, .slice none 0 0] rfl rfl 31 _ HZ.out.1 infoAG7 rfl (by simp [Value.oneCell']) ?_)
        refine bodyPost_ret (v := .tuple #[.agg #[.int .i64 0, .string ⟨#[]⟩, .slice none 0 0, .slice none 0 0, .slice none 0 0, .slice none 0 0, .slice none 0 0], .int .i64 12]) ?_ rfl ?_
        · exact results_rtA (t := 31) rfl _ _ (w.heap.size + 1 + 1) _ (fr := (0, 0)) _ _ rfl rfl (setRow_heap _ _ _ _ _ _ HZ.out.1) Tryz.underlying31 rfl infoAG7
        · rw [HE.out.1, HE.out.2]
          exact ⟨_, rfl, agZero _ _, below_setRow (HW.out.2.2.1.trans (HZ.out.2.mono HW.out.2.2.1.size)) (by omega) _⟩
      rw [decide_eq_true hN] at hbk
      subst hbk
      obtain ⟨R, eR⟩ : ∃ R, R = chF [vr] c.vers := ⟨_, rfl⟩
      have bA : Below wc.heap.size wc (wd.alloc (.cells #[.int .i64 vr] 3)) := bz.alloc bz.size _
      have rw1 : Row (wd.alloc (.cells #[.int .i64 vr] 3)) .i64 (.slice (some ⟨wd.heap.size, 0, none⟩) 1 1) [vr] := row_of_owns (base := wd.heap.size) (World.ownsRow_lit wd #[.int .i64 vr] 1 (Nat.le_refl _) (by decide) rfl)
      have rv : Row (wd.alloc (.cells #[.int .i64 vr] 3)) .i64 (.slice a1 nv p1) c.vers := by rw [HD.out.2.2.2.2.2.2.1]; exact (HD.out.2.2.1.below bA).r1
      have hlw : w.heap.size + 1 + 1 < wd.heap.size := by have h1 := HD.out.2.2.2.1.size; have h2 := bz.size; omega
      have hl1 : w.heap.size < wd.heap.size := by omega
      have hl2 : w.heap.size + 1 < wd.heap.size := by omega
      have CV := spec_chQ _ _ [vr] c.vers _ rw1 rv (by simp) (by have := (agG_facts HD.out.2.2.2.2.1).1; omega)
      rw [← eR] at CV
      have HV : Hid _ := And.intro CV (And.intro bA (And.intro eR hN))
      obtain ⟨x3, x4, x1, x5, x6⟩ := HD.out.1 _ bA
      have HZ0 : Hid _ := And.intro GZ BZ
      clear CV bA eR rw1 rv bz hN hke GZ BZ
      go_wp2_with fail
      go_at_call 21
      refine HV.out.1.mono ?_
      rintro e w5 ⟨rfl, z5, hw5⟩
      have b5 : Below wc.heap.size wc w5 := by rw [hw5]; exact below_drewN HV.out.2.1 z5
      have T5 := HD.out.2.2.1.below b5
      have GZ := HD.out.2.1 _ b5
      have BZ := HD.out.2.2.2.1.trans (b5.mono HD.out.2.2.2.1.size)
      have HZ : Hid _ := And.intro GZ BZ
      have H5 : Hid _ := And.intro T5 b5
      cases hv : c.vers.contains vr with
      | false =>
        as_aux_lemma =>
        have hR : R = 0 := by rw [HV.out.2.2.1, chF_one, hv]; rfl
        have hnH : ¬ agH c s := fun q => by have := q.2; rw [← HD.out.2.2.2.2.2.2.2.2.1, hv] at this; cases this
        subst hR
        have HE : Hid _ := And.intro (show agC ss c s = 12 by unfold agC; rw [if_pos HD.out.2.2.2.2.1, if_neg hnH]) (show agR ss c s = AG.zero by unfold agR; rw [if_neg (fun q => hnH q.2)])
        have fz := fun k => bk_free GZ k
        have cz := fun k => bk_cell GZ k
        clear hnH GZ BZ b5 hw5 T5 hv y3 y4 y1 y5 y6 x3 x4 x1 x5 x6
        go_upto_if 70 with fail
        clear hl1 hl2 hlw fz cz
        go_wp2_with (refine wpList_store_row rfl 31 _ _ rfl (w.heap.size + 1 + 1) #[.int .i64 0, .string ⟨#[]⟩, .slice none 0 0, .slice none 0 0, .slice none 0 0, .slice none 0 0, .slice none 0 0] rfl rfl 31 _ HZ.out.1 infoAG7 rfl (by simp [Value.oneCell']) ?_)
        refine bodyPost_ret (v := .tuple #[.agg #[.int .i64 0, .string ⟨#[]⟩, .slice none 0 0, .slice none 0 0, .slice none 0 0, .slice none 0 0, .slice none 0 0], .int .i64 12]) ?_ rfl ?_
        · exact results_rtA (t := 31) rfl _ _ (w.heap.size + 1 + 1) _ (fr := (0, 0)) _ _ rfl rfl (setRow_heap _ _ _ _ _ _ HZ.out.1) Tryz.underlying31 rfl infoAG7
        · rw [HE.out.1, HE.out.2]
          exact ⟨_, rfl, agZero _ _, below_setRow (HW.out.2.2.1.trans (HZ.out.2.mono HW.out.2.2.1.size)) (by omega) _⟩
      | true =>
        have hR : R = vr := by rw [HV.out.2.2.1, chF_one, hv]; rfl
        have hH : agH c s := ⟨HV.out.2.2.2, by rw [← HD.out.2.2.2.2.2.2.2.2.1]; exact hv⟩
        have r1' : 1 ≤ vr := by rw [HD.out.2.2.2.2.2.2.2.2.1]; exact r1
        have f0 : (vr == 0) = false := by simp; omega
        subst hR
        have HH : Hid _ := And.intro hH HD.out.2.2.2.2.1
        clear hH GZ BZ b5 hw5 T5 hv
        go_wp2_with (refine wpList_load_row rfl 37 (.tmp 4) rfl w.heap.size rfl 37 C1 (0, 0) _ H5.out.1.b1' Tryz.underlying37 rfl SZ1.out ?_)
        go_at_call 22
        refine (hbS_ok _ c w5 H5.out.1.h1 HN.out.2.1 HH.out.2.2.2.2.1).mono ?_
        rintro e w6 ⟨r6, rfl, o6, b6⟩
        have b56 := H5.out.2.trans (b6.mono H5.out.2.size)
        have H6 : Hid _ := And.intro (HD.out.2.2.1.below b56) (And.intro b56 (row_of_owns o6))
        clear o6 b6 b56
        go_wp2_with (refine wpList_load_row rfl 37 (.tmp 5) rfl (w.heap.size + 1) rfl 37 C2 (0, 0) _ H6.out.1.b2' Tryz.underlying37 rfl SZ2.out ?_)
        go_at_call 22
        refine (hbS_ok _ s w6 H6.out.1.h2 HN.out.2.2 HH.out.2.2.2.2.2).mono ?_
        rintro e w7 ⟨r7, rfl, o7, b7⟩
        have b67 := H6.out.2.1.trans (b7.mono H6.out.2.1.size)
        have H7 : Hid _ := And.intro (H6.out.2.2.below b7) (And.intro b67 (row_of_owns o7))
        clear o7 b7 b67
        have lc := heB_len c HH.out.2.2.2.2.1
        have lS := heB_len s HH.out.2.2.2.2.2
        have bc := heB_bytes c HH.out.2.2.2.2.1 HW.out.2.2.2.2.2.2.2.2.1
        have bS := heB_bytes s HH.out.2.2.2.2.2 HW.out.2.2.2.2.2.2.2.2.2
        have HL : Hid _ := And.intro lc (And.intro lS (And.intro bc bS))
        clear lc lS bc bS
        go_wp2_with fail
        go_at_call 24
        refine (catC _ _ (heB c) (heB s) w7 H7.out.1 H7.out.2.2 (by have := HL.out.1; omega) (by have := HL.out.2.1; omega)).mono ?_
        rintro e w8 ⟨r8, rfl, o8, b8⟩
        have b78 := H7.out.2.1.trans (b8.mono H7.out.2.1.size)
        have H8 : Hid _ := And.intro b78 (row_of_owns (by rw [← List.length_append] at o8; exact o8))
        clear o8 b8 b78
        go_wp2_with fail
        go_at_call 23
        have q1 : Row w8 .u8 (.slice a0 16 p0) ss := by have h := (HW.out.2.2.2.2.2.2.1.below HD.out.2.2.2.1).below H8.out.1; rw [← HN.out.1] at h; exact h
        refine (specDigest _ _ ss (heB c ++ heB s) w8 q1 H8.out.2 HW.out.2.2.2.2.2.2.2.1 (bytes_append HL.out.2.2.1 HL.out.2.2.2) (by have := HN.out.1; omega) (by rw [List.length_append]; have h1 := HL.out.1; have h2 := HL.out.2.1; omega)).mono ?_
        rintro e w9 ⟨r9, rfl, o9, b9⟩
        have b89 := H8.out.1.trans (b9.mono H8.out.1.size)
        have rr9 : Row w9 .u8 r9 (agRt ss c s) := row_of_owns o9
        have HE9 := HD.out.1 _ b89
        clear q1
        have H9 : Hid _ := And.intro b89 (And.intro rr9 (And.intro (HD.out.2.2.1.below b89) (HD.out.2.1 _ b89)))
        clear o9 b9 b89 rr9 y3 y4 y1 y5 y6 x3 x4 x1 x5 x6 HE9
        go_upto_region 13 with fail
        obtain ⟨rt, ert⟩ : ∃ rt, rt = agRt ss c s := ⟨_, rfl⟩
        have rr := H9.out.2.1
        rw [← ert] at rr
        have brt : Bytes rt := by rw [ert]; exact agRt_bytes ss c s
        have lrt : rt.length = 16 := by rw [ert]; exact agRt_len ss c s
        have CX : ∀ wx, Below w9.heap.size w9 wx → wx.cell? ⟨w.heap.size + 1, 1, none⟩ = some (.int .i64 R) ∧ wx.cell? ⟨w.heap.size + 1, 4, none⟩ = some (.slice (some ⟨tb, tf, none⟩) 1 q2) ∧ wx.cell? ⟨tb, tf, none⟩ = some (.string N0) := fun wx b => by obtain ⟨_, _, a, b2, c2⟩ := HD.out.1 wx (H9.out.1.trans (b.mono H9.out.1.size)); exact ⟨a, b2, c2⟩
        obtain ⟨L1, eL1⟩ : ∃ L, L = derV rt lC1 16 := ⟨_, rfl⟩
        have CD1 : ∀ wx, Below w9.heap.size w9 wx → Calls Tryz.prog 25 #[r9, .string lC1, .int .i64 16] wx fun e w' => ∃ r, e = .returned r ∧ w'.ownsRow wx.heap.size 5 1 r L1.length (L1.map (Value.int .u8)) ∧ Below wx.heap.size wx w' := fun wx b => by rw [eL1]; exact specDerive r9 rt lC1 16 wx (rr.below b) brt (by omega) (by decide)
        obtain ⟨L2, eL2⟩ : ∃ L, L = derV rt lS1 16 := ⟨_, rfl⟩
        have CD2 : ∀ wx, Below w9.heap.size w9 wx → Calls Tryz.prog 25 #[r9, .string lS1, .int .i64 16] wx fun e w' => ∃ r, e = .returned r ∧ w'.ownsRow wx.heap.size 5 1 r L2.length (L2.map (Value.int .u8)) ∧ Below wx.heap.size wx w' := fun wx b => by rw [eL2]; exact specDerive r9 rt lS1 16 wx (rr.below b) brt (by omega) (by decide)
        obtain ⟨L3, eL3⟩ : ∃ L, L = derV rt lC2 16 := ⟨_, rfl⟩
        have CD3 : ∀ wx, Below w9.heap.size w9 wx → Calls Tryz.prog 25 #[r9, .string lC2, .int .i64 16] wx fun e w' => ∃ r, e = .returned r ∧ w'.ownsRow wx.heap.size 5 1 r L3.length (L3.map (Value.int .u8)) ∧ Below wx.heap.size wx w' := fun wx b => by rw [eL3]; exact specDerive r9 rt lC2 16 wx (rr.below b) brt (by omega) (by decide)
        obtain ⟨L4, eL4⟩ : ∃ L, L = derV rt lS2 16 := ⟨_, rfl⟩
        have CD4 : ∀ wx, Below w9.heap.size w9 wx → Calls Tryz.prog 25 #[r9, .string lS2, .int .i64 16] wx fun e w' => ∃ r, e = .returned r ∧ w'.ownsRow wx.heap.size 5 1 r L4.length (L4.map (Value.int .u8)) ∧ Below wx.heap.size wx w' := fun wx b => by rw [eL4]; exact specDerive r9 rt lS2 16 wx (rr.below b) brt (by omega) (by decide)
        obtain ⟨L5, eL5⟩ : ∃ L, L = derV rt lCk 8 := ⟨_, rfl⟩
        have CD5 : ∀ wx, Below w9.heap.size w9 wx → Calls Tryz.prog 25 #[r9, .string lCk, .int .i64 8] wx fun e w' => ∃ r, e = .returned r ∧ w'.ownsRow wx.heap.size 5 1 r L5.length (L5.map (Value.int .u8)) ∧ Below wx.heap.size wx w' := fun wx b => by rw [eL5]; exact specDerive r9 rt lCk 8 wx (rr.below b) brt (by omega) (by decide)
        have HD1 : Hid _ := And.intro CX (And.intro CD1 (And.intro CD2 (And.intro CD3 (And.intro CD4 CD5))))
        have HL5 : Hid _ := And.intro ert (And.intro eL1 (And.intro eL2 (And.intro eL3 (And.intro eL4 eL5))))
        clear ert rr brt lrt CX CD1 CD2 CD3 CD4 CD5 eL1 eL2 eL3 eL4 eL5
        refine region_I (fun f a wx => ∃ u15 u87 u88 u89 u90 u91 u92 u93 u94 u95 u96 u97 : Value, a = { tmps := #[.slice a0 16 p0, .agg C1, .agg C2, undef, .pointer (some ⟨w.heap.size, 0, none⟩), .pointer (some ⟨w.heap.size + 1, 0, none⟩), .pointer (some ⟨w.heap.size + 1 + 1, 0, none⟩), .int .i64 0, .bool true, .int .i64 (k : Int), r6, .int .i64 0, r7, .int .i64 0, r9, u15, u16, u17, u18, u19, u20, u21, u22, u23, u24, u25, u26, u27, u28, u29, u30, u31, u32, u33, u34, u35, u36, u37, .bool false, u39, .int .i64 (k : Int), .pointer (some ⟨w.heap.size, 4, none⟩), .slice ao1 nn q1, .int .i64 (nn : Int), .bool false, u45, u46, u47, u48, u49, u50, u51, u52, u53, u54, u55, u56, u57, u58, u59, .bool true, .bool false, .bool false, .pointer (some ⟨w.heap.size + 1, 1, none⟩), .int .i64 R, .slice (some ⟨wd.heap.size, 0, none⟩) 1 1, .pointer (some ⟨w.heap.size, 3, none⟩), .slice a1 nv p1, .int .i64 R, .bool false, .bool false, u71, .tuple #[r6, .int .i64 0], .agg C1, .tuple #[r6, .int .i64 0], r6, .int .i64 0, .tuple #[r7, .int .i64 0], .agg C2, .tuple #[r7, .int .i64 0], r7, .int .i64 0, .slice a0 16 p0, r6, r7, r8, r9, u87, u88, u89, u90, u91, u92, u93, u94, u95, u96, u97, u98, u99, u100, u101, u102, u103, u104, u105, u106, u107], defers := [] } ∧ PG w9 (w.heap.size + 1) tb tf q2 R N0 r9 L1 L2 f wx u15 u87 u88 u89 u90 u91 u92 u93 u94 u95 u96 u97) (by kernel_rfl) (by kernel_rfl) ?step ?done ?start
        case start =>
          exact ⟨_, _, _, _, _, _, _, _, _, _, _, _, rfl, ⟨fun h => by simp at h, fun h => by simp at h, fun h => by simp at h, fun h => by simp at h, fun h => by simp at h, fun h => by simp at h, fun h => by simp at h, fun h => by simp at h, fun h => by simp at h, fun h => by simp at h, fun h => by simp at h, fun h => by simp at h, ⟨rfl, rfl, rfl, Nat.le_refl _, fun _ _ => rfl⟩, fun h => by simp at h, fun h => by simp at h, fun h => by simp at h⟩⟩
        case step =>
          intro f a wx j op hInv hoj hfj hall K hK
          obtain ⟨u15, u87, u88, u89, u90, u91, u92, u93, u94, u95, u96, u97, rfl, hI⟩ := hInv
          have hj : j < 13 := (Array.getElem?_eq_some_iff.1 hoj).1
          obtain ⟨cA, cB, cC⟩ := HD1.out.1 wx hI.bl
          obtain rfl | rfl | rfl | rfl | rfl | rfl | rfl | rfl | rfl | rfl | rfl | rfl | rfl : j = 0 ∨ j = 1 ∨ j = 2 ∨ j = 3 ∨ j = 4 ∨ j = 5 ∨ j = 6 ∨ j = 7 ∨ j = 8 ∨ j = 9 ∨ j = 10 ∨ j = 11 ∨ j = 12 := by omega
          · obtain rfl := Option.some.inj hoj
            have h12 : f 12 = false := by
              cases h : f 12 with
              | false => rfl
              | true => exact absurd (hI.late h 0 (by omega)) (by rw [hfj]; simp)
            have HI2 : Hid _ := And.intro hI True.intro
            clear hI
            go_simp
            refine hK _ _ ?_
            refine ⟨_, _, _, _, _, _, _, _, _, _, _, _, rfl, ?_⟩
            have hI := HI2.out.1
            exact ⟨fun _ => rfl, fun h => hI.x1 (by simpa using h), fun h => hI.x2 (by simpa using h), fun h => hI.x3 (by simpa using h), fun h => hI.x4 (by simpa using h), fun h => hI.x5 (by simpa using h), fun h => hI.x6 (by simpa using h), fun h => hI.x7 (by simpa using h), fun h => hI.x8 (by simpa using h), fun h => hI.x9 (by simpa using h), fun h => hI.x10 (by simpa using h), fun h => by obtain ⟨b, e, hz, hb⟩ := hI.x11 (by simpa using h); exact ⟨b, e, hz, by simpa [h12] using hb⟩, hI.bl, fun h => by have := hI.q9 (by simpa using h); simp [this], fun h => by have := hI.q10 (by simpa using h); simp [this], fun h i hi => by have := hI.late (by simpa using h) i hi; simp [this]⟩
          · obtain rfl := Option.some.inj hoj
            have h0_ := hall ⟨0, .data⟩ (by simp) rfl
            obtain rfl := hI.x0 h0_
            have h12 : f 12 = false := by
              cases h : f 12 with
              | false => rfl
              | true => exact absurd (hI.late h 1 (by omega)) (by rw [hfj]; simp)
            have HI2 : Hid _ := And.intro hI True.intro
            clear hI
            go_simp
            refine hK _ _ ?_
            refine ⟨_, _, _, _, _, _, _, _, _, _, _, _, rfl, ?_⟩
            have hI := HI2.out.1
            exact ⟨fun h => hI.x0 (by simpa using h), fun _ => rfl, fun h => hI.x2 (by simpa using h), fun h => hI.x3 (by simpa using h), fun h => hI.x4 (by simpa using h), fun h => hI.x5 (by simpa using h), fun h => hI.x6 (by simpa using h), fun h => hI.x7 (by simpa using h), fun h => hI.x8 (by simpa using h), fun h => hI.x9 (by simpa using h), fun h => hI.x10 (by simpa using h), fun h => by obtain ⟨b, e, hz, hb⟩ := hI.x11 (by simpa using h); exact ⟨b, e, hz, by simpa [h12] using hb⟩, hI.bl, fun h => by have := hI.q9 (by simpa using h); simp [this], fun h => by have := hI.q10 (by simpa using h); simp [this], fun h i hi => by have := hI.late (by simpa using h) i hi; simp [this]⟩
          · obtain rfl := Option.some.inj hoj
            have h12 : f 12 = false := by
              cases h : f 12 with
              | false => rfl
              | true => exact absurd (hI.late h 2 (by omega)) (by rw [hfj]; simp)
            have HI2 : Hid _ := And.intro hI True.intro
            clear hI
            go_simp
            refine hK _ _ ?_
            refine ⟨_, _, _, _, _, _, _, _, _, _, _, _, rfl, ?_⟩
            have hI := HI2.out.1
            exact ⟨fun h => hI.x0 (by simpa using h), fun h => hI.x1 (by simpa using h), fun _ => rfl, fun h => hI.x3 (by simpa using h), fun h => hI.x4 (by simpa using h), fun h => hI.x5 (by simpa using h), fun h => hI.x6 (by simpa using h), fun h => hI.x7 (by simpa using h), fun h => hI.x8 (by simpa using h), fun h => hI.x9 (by simpa using h), fun h => hI.x10 (by simpa using h), fun h => by obtain ⟨b, e, hz, hb⟩ := hI.x11 (by simpa using h); exact ⟨b, e, hz, by simpa [h12] using hb⟩, hI.bl, fun h => by have := hI.q9 (by simpa using h); simp [this], fun h => by have := hI.q10 (by simpa using h); simp [this], fun h i hi => by have := hI.late (by simpa using h) i hi; simp [this]⟩
          · obtain rfl := Option.some.inj hoj
            have h2_ := hall ⟨2, .data⟩ (by simp) rfl
            obtain rfl := hI.x2 h2_
            have h12 : f 12 = false := by
              cases h : f 12 with
              | false => rfl
              | true => exact absurd (hI.late h 3 (by omega)) (by rw [hfj]; simp)
            have HI2 : Hid _ := And.intro hI True.intro
            clear hI
            go_simp
            refine hK _ _ ?_
            refine ⟨_, _, _, _, _, _, _, _, _, _, _, _, rfl, ?_⟩
            have hI := HI2.out.1
            exact ⟨fun h => hI.x0 (by simpa using h), fun h => hI.x1 (by simpa using h), fun h => hI.x2 (by simpa using h), fun _ => rfl, fun h => hI.x4 (by simpa using h), fun h => hI.x5 (by simpa using h), fun h => hI.x6 (by simpa using h), fun h => hI.x7 (by simpa using h), fun h => hI.x8 (by simpa using h), fun h => hI.x9 (by simpa using h), fun h => hI.x10 (by simpa using h), fun h => by obtain ⟨b, e, hz, hb⟩ := hI.x11 (by simpa using h); exact ⟨b, e, hz, by simpa [h12] using hb⟩, hI.bl, fun h => by have := hI.q9 (by simpa using h); simp [this], fun h => by have := hI.q10 (by simpa using h); simp [this], fun h i hi => by have := hI.late (by simpa using h) i hi; simp [this]⟩
          · obtain rfl := Option.some.inj hoj
            have h3_ := hall ⟨3, .data⟩ (by simp) rfl
            obtain rfl := hI.x3 h3_
            have h12 : f 12 = false := by
              cases h : f 12 with
              | false => rfl
              | true => exact absurd (hI.late h 4 (by omega)) (by rw [hfj]; simp)
            have HI2 : Hid _ := And.intro hI True.intro
            clear hI
            go_simp
            refine hK _ _ ?_
            refine ⟨_, _, _, _, _, _, _, _, _, _, _, _, rfl, ?_⟩
            have hI := HI2.out.1
            exact ⟨fun h => hI.x0 (by simpa using h), fun h => hI.x1 (by simpa using h), fun h => hI.x2 (by simpa using h), fun h => hI.x3 (by simpa using h), fun _ => rfl, fun h => hI.x5 (by simpa using h), fun h => hI.x6 (by simpa using h), fun h => hI.x7 (by simpa using h), fun h => hI.x8 (by simpa using h), fun h => hI.x9 (by simpa using h), fun h => hI.x10 (by simpa using h), fun h => by obtain ⟨b, e, hz, hb⟩ := hI.x11 (by simpa using h); exact ⟨b, e, hz, by simpa [h12] using hb⟩, hI.bl, fun h => by have := hI.q9 (by simpa using h); simp [this], fun h => by have := hI.q10 (by simpa using h); simp [this], fun h i hi => by have := hI.late (by simpa using h) i hi; simp [this]⟩
          · obtain rfl := Option.some.inj hoj
            have h4_ := hall ⟨4, .data⟩ (by simp) rfl
            obtain rfl := hI.x4 h4_
            have h12 : f 12 = false := by
              cases h : f 12 with
              | false => rfl
              | true => exact absurd (hI.late h 5 (by omega)) (by rw [hfj]; simp)
            have HI2 : Hid _ := And.intro hI True.intro
            clear hI
            go_simp
            refine hK _ _ ?_
            refine ⟨_, _, _, _, _, _, _, _, _, _, _, _, rfl, ?_⟩
            have hI := HI2.out.1
            exact ⟨fun h => hI.x0 (by simpa using h), fun h => hI.x1 (by simpa using h), fun h => hI.x2 (by simpa using h), fun h => hI.x3 (by simpa using h), fun h => hI.x4 (by simpa using h), fun _ => rfl, fun h => hI.x6 (by simpa using h), fun h => hI.x7 (by simpa using h), fun h => hI.x8 (by simpa using h), fun h => hI.x9 (by simpa using h), fun h => hI.x10 (by simpa using h), fun h => by obtain ⟨b, e, hz, hb⟩ := hI.x11 (by simpa using h); exact ⟨b, e, hz, by simpa [h12] using hb⟩, hI.bl, fun h => by have := hI.q9 (by simpa using h); simp [this], fun h => by have := hI.q10 (by simpa using h); simp [this], fun h i hi => by have := hI.late (by simpa using h) i hi; simp [this]⟩
          · obtain rfl := Option.some.inj hoj
            have h12 : f 12 = false := by
              cases h : f 12 with
              | false => rfl
              | true => exact absurd (hI.late h 6 (by omega)) (by rw [hfj]; simp)
            have HI2 : Hid _ := And.intro hI True.intro
            clear hI
            go_simp
            refine hK _ _ ?_
            refine ⟨_, _, _, _, _, _, _, _, _, _, _, _, rfl, ?_⟩
            have hI := HI2.out.1
            exact ⟨fun h => hI.x0 (by simpa using h), fun h => hI.x1 (by simpa using h), fun h => hI.x2 (by simpa using h), fun h => hI.x3 (by simpa using h), fun h => hI.x4 (by simpa using h), fun h => hI.x5 (by simpa using h), fun _ => rfl, fun h => hI.x7 (by simpa using h), fun h => hI.x8 (by simpa using h), fun h => hI.x9 (by simpa using h), fun h => hI.x10 (by simpa using h), fun h => by obtain ⟨b, e, hz, hb⟩ := hI.x11 (by simpa using h); exact ⟨b, e, hz, by simpa [h12] using hb⟩, hI.bl, fun h => by have := hI.q9 (by simpa using h); simp [this], fun h => by have := hI.q10 (by simpa using h); simp [this], fun h i hi => by have := hI.late (by simpa using h) i hi; simp [this]⟩
          · obtain rfl := Option.some.inj hoj
            have h6_ := hall ⟨6, .data⟩ (by simp) rfl
            obtain rfl := hI.x6 h6_
            have h12 : f 12 = false := by
              cases h : f 12 with
              | false => rfl
              | true => exact absurd (hI.late h 7 (by omega)) (by rw [hfj]; simp)
            have n9 : f 9 = false := by
              cases h : f 9 with
              | false => rfl
              | true => exact absurd (hI.q9 h) (by rw [hfj]; simp)
            have n10 : f 10 = false := by
              cases h : f 10 with
              | false => rfl
              | true => exact absurd (hI.q10 h).1 (by rw [hfj]; simp)
            have HI2 : Hid _ := And.intro hI True.intro
            clear hI
            go_simp
            go_at_call 25
            refine (HD1.out.2.1 wx HI2.out.1.bl).mono ?_
            rintro e w7 ⟨r, rfl, o7, b7⟩
            refine hK _ _ ?_
            refine ⟨_, _, _, _, _, _, _, _, _, _, _, _, rfl, ?_⟩
            have hI := HI2.out.1
            exact ⟨fun h => hI.x0 (by simpa using h), fun h => hI.x1 (by simpa using h), fun h => hI.x2 (by simpa using h), fun h => hI.x3 (by simpa using h), fun h => hI.x4 (by simpa using h), fun h => hI.x5 (by simpa using h), fun h => hI.x6 (by simpa using h), fun _ => (owns_mono o7 hI.bl.size), fun h => hI.x8 (by simpa using h), fun h => by simp [n9] at h, fun h => by simp [n10] at h, fun h => by obtain ⟨b, e, hz, hb⟩ := hI.x11 (by simpa using h); exact ⟨b, e, hz, by simpa [h12] using (b7.block _ (Array.getElem?_eq_some_iff.1 hb).1).trans hb⟩, hI.bl.trans (b7.mono hI.bl.size), fun h => by have := hI.q9 (by simpa using h); simp [this], fun h => by have := hI.q10 (by simpa using h); simp [this], fun h i hi => by have := hI.late (by simpa using h) i hi; simp [this]⟩
          · obtain rfl := Option.some.inj hoj
            have h12 : f 12 = false := by
              cases h : f 12 with
              | false => rfl
              | true => exact absurd (hI.late h 8 (by omega)) (by rw [hfj]; simp)
            have HI2 : Hid _ := And.intro hI True.intro
            clear hI
            go_simp
            refine hK _ _ ?_
            refine ⟨_, _, _, _, _, _, _, _, _, _, _, _, rfl, ?_⟩
            have hI := HI2.out.1
            exact ⟨fun h => hI.x0 (by simpa using h), fun h => hI.x1 (by simpa using h), fun h => hI.x2 (by simpa using h), fun h => hI.x3 (by simpa using h), fun h => hI.x4 (by simpa using h), fun h => hI.x5 (by simpa using h), fun h => hI.x6 (by simpa using h), fun h => hI.x7 (by simpa using h), fun _ => rfl, fun h => hI.x9 (by simpa using h), fun h => hI.x10 (by simpa using h), fun h => by obtain ⟨b, e, hz, hb⟩ := hI.x11 (by simpa using h); exact ⟨b, e, hz, by simpa [h12] using hb⟩, hI.bl, fun h => by have := hI.q9 (by simpa using h); simp [this], fun h => by have := hI.q10 (by simpa using h); simp [this], fun h i hi => by have := hI.late (by simpa using h) i hi; simp [this]⟩
          · obtain rfl := Option.some.inj hoj
            have h8_ := hall ⟨8, .data⟩ (by simp) rfl
            have h7_ := hall ⟨7, .chain⟩ (by simp) rfl
            obtain rfl := hI.x8 h8_
            have h12 : f 12 = false := by
              cases h : f 12 with
              | false => rfl
              | true => exact absurd (hI.late h 9 (by omega)) (by rw [hfj]; simp)
            have n10 : f 10 = false := by
              cases h : f 10 with
              | false => rfl
              | true => exact absurd (hI.q10 h).2 (by rw [hfj]; simp)
            have HI2 : Hid _ := And.intro hI True.intro
            clear hI
            go_simp
            go_at_call 25
            refine (HD1.out.2.2.1 wx HI2.out.1.bl).mono ?_
            rintro e w7 ⟨r, rfl, o7, b7⟩
            refine hK _ _ ?_
            refine ⟨_, _, _, _, _, _, _, _, _, _, _, _, rfl, ?_⟩
            have hI := HI2.out.1
            exact ⟨fun h => hI.x0 (by simpa using h), fun h => hI.x1 (by simpa using h), fun h => hI.x2 (by simpa using h), fun h => hI.x3 (by simpa using h), fun h => hI.x4 (by simpa using h), fun h => hI.x5 (by simpa using h), fun h => hI.x6 (by simpa using h), fun h => owns_below (hI.x7 (by simpa using h)) b7, fun h => hI.x8 (by simpa using h), fun _ => ⟨owns_mono o7 hI.bl.size, apart_old (hI.x7 h7_) o7⟩, fun h => by simp [n10] at h, fun h => by obtain ⟨b, e, hz, hb⟩ := hI.x11 (by simpa using h); exact ⟨b, e, hz, by simpa [h12] using (b7.block _ (Array.getElem?_eq_some_iff.1 hb).1).trans hb⟩, hI.bl.trans (b7.mono hI.bl.size), fun _ => by simp [h7_], fun h => by have := hI.q10 (by simpa using h); simp [this], fun h i hi => by have := hI.late (by simpa using h) i hi; simp [this]⟩
          · obtain rfl := Option.some.inj hoj
            have h1_ := hall ⟨1, .data⟩ (by simp) rfl
            have h5_ := hall ⟨5, .data⟩ (by simp) rfl
            have h7_ := hall ⟨7, .data⟩ (by simp) rfl
            have h9_ := hall ⟨9, .data⟩ (by simp) rfl
            obtain rfl := hI.x1 h1_
            obtain rfl := hI.x5 h5_
            have h12 : f 12 = false := by
              cases h : f 12 with
              | false => rfl
              | true => exact absurd (hI.late h 10 (by omega)) (by rw [hfj]; simp)
            obtain ⟨sa, sb, e94⟩ := own_formA (hI.x7 h7_)
            subst e94
            obtain ⟨sc, sd, e96⟩ := own_formA (hI.x9 h9_).1
            subst e96
            have HI2 : Hid _ := And.intro hI True.intro
            clear hI
            go_simp
            refine hK _ _ ?_
            refine ⟨_, _, _, _, _, _, _, _, _, _, _, _, rfl, ?_⟩
            have hI := HI2.out.1
            exact ⟨fun h => hI.x0 (by simpa using h), fun h => hI.x1 (by simpa using h), fun h => hI.x2 (by simpa using h), fun h => hI.x3 (by simpa using h), fun h => hI.x4 (by simpa using h), fun h => hI.x5 (by simpa using h), fun h => hI.x6 (by simpa using h), fun h => hI.x7 (by simpa using h), fun h => hI.x8 (by simpa using h), fun h => hI.x9 (by simpa using h), fun _ => rfl, fun h => by obtain ⟨b, e, hz, hb⟩ := hI.x11 (by simpa using h); exact ⟨b, e, hz, by simpa [h12] using hb⟩, hI.bl, fun h => by have := hI.q9 (by simpa using h); simp [this], fun _ => by simp [h7_, h9_], fun h i hi => by have := hI.late (by simpa using h) i hi; simp [this]⟩
          · obtain rfl := Option.some.inj hoj
            have h12 : f 12 = false := by
              cases h : f 12 with
              | false => rfl
              | true => exact absurd (hI.late h 11 (by omega)) (by rw [hfj]; simp)
            have HI2 : Hid _ := And.intro hI True.intro
            clear hI
            go_simp
            refine hK _ _ ?_
            refine ⟨_, _, _, _, _, _, _, _, _, _, _, _, rfl, ?_⟩
            have hI := HI2.out.1
            have b7 : Below wx.heap.size wx (wx.alloc (.cells #[.int .i64 0, .string ⟨#[]⟩, .slice none 0 0, .slice none 0 0, .slice none 0 0, .slice none 0 0, .slice none 0 0] 31)) := (Below.refl _ _).alloc (Nat.le_refl _) _
            exact ⟨fun h => hI.x0 (by simpa using h), fun h => hI.x1 (by simpa using h), fun h => hI.x2 (by simpa using h), fun h => hI.x3 (by simpa using h), fun h => hI.x4 (by simpa using h), fun h => hI.x5 (by simpa using h), fun h => hI.x6 (by simpa using h), fun h => owns_below (hI.x7 (by simpa using h)) b7, fun h => hI.x8 (by simpa using h), fun h => ⟨owns_below (hI.x9 (by simpa using h)).1 b7, (hI.x9 (by simpa using h)).2⟩, fun h => hI.x10 (by simpa using h), fun _ => ⟨_, rfl, hI.bl.size, by simp only [show ((12 : Nat) == 11 || f 12) = false by rw [h12]; rfl]; exact heap_alloc_new wx _⟩, hI.bl.trans (b7.mono hI.bl.size), fun h => by have := hI.q9 (by simpa using h); simp [this], fun h => by have := hI.q10 (by simpa using h); simp [this], fun h i hi => by have := hI.late (by simpa using h) i hi; simp [this]⟩
          · obtain rfl := Option.some.inj hoj
            have h11_ := hall ⟨11, .data⟩ (by simp) rfl
            have h10_ := hall ⟨10, .data⟩ (by simp) rfl
            obtain rfl := hI.x10 h10_
            obtain ⟨b9, rfl, z9, t9⟩ := hI.x11 h11_
            rw [hfj] at t9
            simp only [Bool.false_eq_true, if_false] at t9
            have fz0 := bk_free t9 0
            have fz1 := bk_free t9 1
            have fz2 := bk_free t9 2
            have fz3 := bk_free t9 3
            have fz4 := bk_free t9 4
            have fz5 := bk_free t9 5
            have fz6 := bk_free t9 6
            have cz0 := bk_cell t9 0
            have cz1 := bk_cell t9 1
            have cz2 := bk_cell t9 2
            have cz3 := bk_cell t9 3
            have cz4 := bk_cell t9 4
            have cz5 := bk_cell t9 5
            have cz6 := bk_cell t9 6
            have h7_ := hall ⟨7, .phase⟩ (by simp) rfl
            have h9_ := hall ⟨9, .phase⟩ (by simp) rfl
            obtain ⟨sa, sb, e94⟩ := own_formA (hI.x7 h7_)
            subst e94
            obtain ⟨sc, sd, e96⟩ := own_formA (hI.x9 h9_).1
            subst e96
            have HI2 : Hid _ := And.intro hI True.intro
            clear hI
            go_simp
            refine hK _ _ ?_
            refine ⟨_, _, _, _, _, _, _, _, _, _, _, _, rfl, ?_⟩
            have hI := HI2.out.1
            have hAll : ∀ i, i < 12 → f i = true := by
              intro i hi
              obtain rfl | rfl | rfl | rfl | rfl | rfl | rfl | rfl | rfl | rfl | rfl | rfl : i = 0 ∨ i = 1 ∨ i = 2 ∨ i = 3 ∨ i = 4 ∨ i = 5 ∨ i = 6 ∨ i = 7 ∨ i = 8 ∨ i = 9 ∨ i = 10 ∨ i = 11 := by omega
              all_goals exact hall ⟨_, .phase⟩ (by simp) rfl
            have g7 := put7A_grown wx b9 (.int .i64 R) (.string N0) (.slice sa L1.length sb) (.slice sc L2.length sd) (.slice none 0 0) (.slice none 0 0) (.slice none 0 0)
            have t12 := put7A_heap t9 (.int .i64 R) (.string N0) (.slice sa L1.length sb) (.slice sc L2.length sd) (.slice none 0 0) (.slice none 0 0) (.slice none 0 0)
            exact ⟨fun h => hI.x0 (by simpa using h), fun h => hI.x1 (by simpa using h), fun h => hI.x2 (by simpa using h), fun h => hI.x3 (by simpa using h), fun h => hI.x4 (by simpa using h), fun h => hI.x5 (by simpa using h), fun h => hI.x6 (by simpa using h), fun _ => ownsBlkA (hI.x7 (hAll 7 (by omega))) g7 t9 (by decide), fun h => hI.x8 (by simpa using h), fun _ => ⟨ownsBlkA (hI.x9 (hAll 9 (by omega))).1 g7 t9 (by decide), (hI.x9 (hAll 9 (by omega))).2⟩, fun h => hI.x10 (by simpa using h), fun _ => ⟨b9, rfl, z9, by rw [show ((12 : Nat) == 12 || f 12) = true from rfl, if_pos rfl]; exact t12⟩, hI.bl.grown g7 hI.bl.size (fun q hq => by have := Option.some.inj hq; omega), fun _ => by simp [hAll 7 (by omega)], fun _ => by simp [hAll 7 (by omega), hAll 9 (by omega)], fun _ i hi => by have := hAll i hi; simp [this]⟩
        case done =>
          intro f a wx hInv hall
          obtain ⟨u15, u87, u88, u89, u90, u91, u92, u93, u94, u95, u96, u97, rfl, hI⟩ := hInv
          have h7 := hI.x7 (hall 7 (by decide))
          obtain ⟨h9, hap⟩ := hI.x9 (hall 9 (by decide))
          obtain ⟨sa, sb, e94⟩ := own_formA h7
          subst e94
          obtain ⟨sc, sd, e96⟩ := own_formA h9
          subst e96
          obtain ⟨bx, rfl, zb, tb9⟩ := hI.x11 (hall 11 (by decide))
          rw [hall 12 (by decide)] at tb9
          have AB : ABx w9 wx bx ⟨R, N0, L1, L2, [], [], []⟩ (.slice sa L1.length sb) (.slice sc L2.length sd) (.slice none 0 0) (.slice none 0 0) (.slice none 0 0) :=
            ⟨by simpa using tb9, ⟨h7, h9, World.ownsRow_nil _ _ _ _, World.ownsRow_nil _ _ _ _, World.ownsRow_nil _ _ _ _, by
              have a := apart_nilR
              simp [hap, apart_nilR]⟩, hI.bl, zb⟩
          have HB : Hid _ := And.intro AB True.intro
          clear AB h7 h9 hap tb9 zb hI hall
          dsimp only
          go_wp2_with fail
          go_at_call 25
          refine (HD1.out.2.2.2.1 wx HB.out.1.bl).mono ?_
          rintro e wa ⟨ra, rfl, oa, ba⟩
          obtain ⟨xa, ya, ea⟩ := own_formA oa
          subst ea
          have tA := (ba.block bx (Array.getElem?_eq_some_iff.1 HB.out.1.bk).1).trans HB.out.1.bk
          have fA := bk_free tA 4
          have cA := bk_cell tA 4
          have HA : Hid _ := And.intro (HB.out.1.set2 oa ba rfl rfl) True.intro
          clear oa ba tA
          go_wp2_with fail
          go_at_call 25
          refine (HD1.out.2.2.2.2.1 _ HA.out.1.bl).mono ?_
          rintro e we ⟨re, rfl, oe, be⟩
          obtain ⟨xe, ye, ee⟩ := own_formA oe
          subst ee
          have tE := (be.block bx (Array.getElem?_eq_some_iff.1 HA.out.1.bk).1).trans HA.out.1.bk
          have fE := bk_free tE 5
          have cE := bk_cell tE 5
          have HE : Hid _ := And.intro (HA.out.1.set3 oe be rfl) True.intro
          clear oe be tE fA cA
          go_wp2_with fail
          go_at_call 25
          refine (HD1.out.2.2.2.2.2 _ HE.out.1.bl).mono ?_
          rintro e wi ⟨ri, rfl, oi, bi⟩
          obtain ⟨xi, yi, ei⟩ := own_formA oi
          subst ei
          have tI := (bi.block bx (Array.getElem?_eq_some_iff.1 HE.out.1.bk).1).trans HE.out.1.bk
          have fI := bk_free tI 6
          have cI := bk_cell tI 6
          have HF : Hid _ := And.intro (HE.out.1.set4 oi bi) True.intro
          clear oi bi tI fE cE
          go_upto_region 17 with fail
          obtain ⟨wF, ewF⟩ : ∃ x, x = wi.setCell ⟨bx, 6, none⟩ (.slice xi L5.length yi) := ⟨_, rfl⟩
          rw [← ewF] at HF ⊢
          have b9F := H9.out.1.trans (HF.out.1.bl.mono H9.out.1.size)
          have GF := HD.out.2.1 wF b9F
          have eR : agR ss c s = ⟨R, N0, L1, L2, L3, L4, L5⟩ := by
            obtain ⟨e0, e1, e2, e3, e4, e5⟩ := HL5.out
            unfold agR
            rw [if_pos ⟨HH.out.2, HH.out.1⟩, e1, e2, e3, e4, e5, e0, HD.out.2.2.2.2.2.2.2.2.1, HD.out.2.2.2.2.2.2.2.2.2]
            rfl
          have eC : agC ss c s = 0 := by unfold agC; rw [if_pos HH.out.2, if_pos HH.out.1]
          have HG : Hid _ := And.intro GF (And.intro b9F (And.intro eR eC))
          clear GF b9F eR eC ewF fI cI
          go_wp2_with (first
            | (refine wpList_load_row rfl 31 (.tmp 15) rfl bx rfl 31 _ (0, 0) _ HF.out.1.bk Tryz.underlying31 rfl infoAG7 ?_)
            | (refine wpList_store_row rfl 31 _ _ rfl (w.heap.size + 1 + 1) #[.int .i64 R, .string N0, .slice sa L1.length sb, .slice sc L2.length sd, .slice xa L3.length ya, .slice xe L4.length ye, .slice xi L5.length yi] rfl rfl 31 _ HG.out.1 infoAG7 rfl (by simp [Value.oneCell']) ?_))
          refine bodyPost_ret (v := .tuple #[.agg #[.int .i64 R, .string N0, .slice sa L1.length sb, .slice sc L2.length sd, .slice xa L3.length ya, .slice xe L4.length ye, .slice xi L5.length yi], .int .i64 0]) ?_ rfl ?_
          · exact results_rtA (t := 31) rfl _ _ (w.heap.size + 1 + 1) _ (fr := (0, 0)) _ _ rfl rfl (setRow_heap _ _ _ _ _ _ HG.out.1) Tryz.underlying31 rfl infoAG7
          · have bw : w.heap.size ≤ w9.heap.size := Nat.le_trans HW.out.2.2.1.size (Nat.le_trans HD.out.2.2.2.1.size H9.out.1.size)
            have ba := (HW.out.2.2.1.trans (HD.out.2.2.2.1.mono HW.out.2.2.1.size)).trans (HG.out.2.1.mono (Nat.le_trans HW.out.2.2.1.size HD.out.2.2.2.1.size))
            rw [HG.out.2.2.1, HG.out.2.2.2]
            exact ⟨_, rfl, AGOwns.mono (base := w9.heap.size) ⟨_, _, _, _, _, rfl, HF.out.1.ow.blkA (setRow_grownA _ _ _) HG.out.1⟩ bw, below_setRow ba (by omega) _⟩
end Go.Proofs.YteggfkekgdlecaaGreatDoor
