import Derived.Test.YtdoglkjhmaiknaaPqI
import Derived.Deep.LoopGhost
import Derived.Deep.CutRange
import Derived.BigQuiet
import Derived.BigRegion
namespace Go.Proofs.Ytdoglkjhmaiknaa
open Go.RowKit
set_option linter.unusedVariables false
set_option linter.unusedSimpArgs false

set_option maxRecDepth 20000 in
set_option maxHeartbeats 40000000 in
theorem fnPaths_walk (v0 : Value) (x0 : List Int) (l0 : x0.length ≤ maxLen) (wf0 : ∀ x ∈ x0, (Lit.int .u8 x).wf = true)
    (w : World) (row0 : Row w .u8 v0 x0) :
    Calls Try.prog 3 #[v0] w fun e w' => e = .returned (.bool true) ∧ Below w.heap.size w w' := by
  have hB := bytes_of_wf wf0
  have hl0 : x0.length ≤ 9223372036854775807 := Nat.le_trans l0 (by decide)
  by_cases hb0 : 1048576 < x0.length
  · obtain ⟨a0, c0, rfl⟩ := row0.form
    have hb0' : (1048576 : Int) < (x0.length : Int) := by omega
    generalize x0.length = m0 at *
    clear row0 hB wf0
    go_enter Try.func3, Try.ntmps3
    go_wp2
    go_ret
    exact ⟨rfl, Below.refl _ _⟩
  obtain ⟨A, eA⟩ : ∃ A, A = dpr x0 := ⟨_, rfl⟩
  obtain ⟨srv, esrv⟩ : ∃ srv, srv = prSrv x0 := ⟨_, rfl⟩
  have hg := dpr_good x0 hB
  have hN := pN_le x0
  rw [← eA] at hg
  rw [← hg.2] at hN
  obtain ⟨N, eN⟩ : ∃ N, N = A.length := ⟨_, rfl⟩
  rw [← eN] at hN
  have hby : ∀ j, ∀ x ∈ (A.getD j default).f3, 0 ≤ x ∧ x < 256 := fun j => (hg.1 j).2
  have hd8 : ∀ j, j < A.length → (A.getD j default).d.length ≤ 1048576 := fun j _ => by have := (hg.1 j).1; show (A.getD j default).f3.length ≤ _; omega
  have CD : ∀ W : World, Below w.heap.size w W → Calls Try.prog 4 #[v0] W fun e w' => ∃ r U, e = .returned (.tuple #[.bool srv, r]) ∧ OpP w' (W.heap.size + 1) r A U ∧ Below W.heap.size W w' := fun W hW => by
    rw [eA, esrv]
    exact drawPR v0 x0 W (row0.below hW) hB (by omega)
  have eC : prC A = 0 := by unfold prC; rw [if_neg (by omega)]
  obtain ⟨Y, eY⟩ : ∃ Y, Y = (List.range A.length).map (pobsAt srv A) := ⟨_, rfl⟩
  have eY2 : prY srv A = Y := by unfold prY; rw [if_neg (by omega), eY]
  have hYl : Y.length = N := by rw [eY, List.length_map, List.length_range, eN]
  have hYa : ∀ i, i < N → Y.getD i default = pobsAt srv A i := fun i hi => by rw [eY]; simp [List.getD, show i < A.length by omega]
  have CS : ∀ (W : World) (v : Value), BRow 4 SPathOp.c SPathOp.d W v A → Calls Try.prog 5 #[.bool srv, v] W fun e w' => ∃ r, e = .returned (.tuple #[r, .int .i64 0]) ∧ GOwns 32 5 w' W.heap.size r (SPathObs.L Y) ∧ Below W.heap.size W w' := fun W v hr => by
    have C := specPR srv v A W hr hd8 hby (by omega)
    rw [eC, eY2] at C
    exact C
  have CI : ∀ (W : World) (v : Value), BRow 4 SPathOp.c SPathOp.d W v A → Calls Try.prog 6 #[.bool srv, v] W fun e w' => ∃ r, e = .returned (.tuple #[r, .int .i64 0]) ∧ GOwns 32 5 w' W.heap.size r (SPathObs.L Y) ∧ Below W.heap.size W w' := fun W v hr => by
    have C := implPR srv v A W hr hd8 hby (by omega)
    rw [eC, eY2] at C
    exact C
  have hnb : ¬ (1048576 : Int) < (x0.length : Int) := by omega
  obtain ⟨a0, c0, ev⟩ := row0.form
  subst ev
  have HC : Hid _ := And.intro CD (And.intro CS (And.intro CI (And.intro hYl (And.intro hYa (And.intro hby eN)))))
  obtain ⟨MI, mI, sI, aI⟩ := mk256 29 3 (.int .i64 0) 8 Try.underlying29 infoI (by decide) rfl
  obtain ⟨MT, mT, sT, aT⟩ := mk256 30 4 (.bool false) 1 Try.underlying30 infoT (by decide) rfl
  have HM : Hid _ := And.intro sI (And.intro aI (And.intro sT aT))
  have t0 : MT[0]? = some (.bool false) := aT 0 (by decide)
  clear CD CS CI hYl hYa hby eN row0 hB wf0 eC eY eY2 hb0 l0 eA esrv hg hd8 sI aI sT aT
  generalize x0.length = m0 at *
  go_enter Try.func3, Try.ntmps3
  go_wp2_with fail
  go_at_call 4
  refine (HC.out.1 w (Below.refl _ _)).mono ?_
  rintro e w1 ⟨r1, U1, rfl, s1, b1⟩
  have H1 : Hid _ := And.intro s1 b1
  clear s1 b1
  go_wp2_with fail
  go_at_call 5
  refine (HC.out.2.1 w1 r1 H1.out.1.brow).mono ?_
  rintro e w2 ⟨r2, rfl, o2, b2⟩
  have H2 : Hid _ := And.intro o2 (H1.out.2.trans (b2.mono H1.out.2.size))
  clear o2 b2
  go_wp2_with fail
  go_at_call 4
  refine (HC.out.1 w2 H2.out.2).mono ?_
  rintro e w3 ⟨r3, U3, rfl, s3, b3⟩
  have H3 : Hid _ := And.intro s3 (And.intro (H2.out.2.trans (b3.mono H2.out.2.size)) (H2.out.1.below b3))
  clear s3 b3
  go_wp2_with fail
  go_at_call 6
  refine (HC.out.2.2.1 w3 r3 H3.out.1.brow).mono ?_
  rintro e w4 ⟨r4, rfl, o4, b4⟩
  have H4 : Hid _ := And.intro o4 (And.intro (H3.out.2.1.trans (b4.mono H3.out.2.1.size)) (H3.out.2.2.below b4))
  clear o4 b4
  have hLY : (SPathObs.L Y).length = N := by rw [List.length_map]; exact HC.out.2.2.2.1
  obtain ⟨gb, go, gc, ev, hgb, cg⟩ := H4.out.1.row.at' (by rw [hLY]; omega)
  rw [hLY] at ev
  subst ev
  obtain ⟨fb, fo, fc, ev, hfb, cf⟩ := H4.out.2.2.row.at' (by rw [hLY]; omega)
  rw [hLY] at ev
  subst ev
  have HG : Hid _ := And.intro cg (And.intro cf hLY)
  clear cg cf hLY
  go_wp2_with fail
  go_at_call 4
  refine (HC.out.1 w4 H4.out.2.1).mono ?_
  rintro e w5 ⟨r5, U5, rfl, s5, b5⟩
  obtain ⟨pb, po, pc, ev, hpb, Up, cp, rp⟩ := s5.brow.at' (by rw [← HC.out.2.2.2.2.2.2]; omega)
  rw [← HC.out.2.2.2.2.2.2] at ev
  subst ev
  have H5 : Hid _ := And.intro b5 (And.intro cp (And.intro rp (H4.out.2.1.trans (b5.mono H4.out.2.1.size))))
  have hs45 : w4.heap.size ≤ w5.heap.size := b5.size
  clear s5 b5 cp rp H1 H2 H3
  go_upto_region 14 with fail
  have hN3 := bk_new3 w5 (.cells MI 3) (.cells MI 3) (.cells (MT.setIfInBounds 0 (.bool !srv)) 4)
  have b6 : Below w5.heap.size w5 (((w5.alloc (.cells MI 3)).alloc (.cells MI 3)).alloc (.cells (MT.setIfInBounds 0 (.bool !srv)) 4)) := (((Below.refl _ _).alloc (Nat.le_refl _) _).alloc (by simp) _).alloc (by simp; omega) _
  obtain ⟨c1, ec1⟩ : ∃ c, c = w5.heap.size := ⟨_, rfl⟩
  obtain ⟨c2, ec2⟩ : ∃ c, c = w5.heap.size + 1 := ⟨_, rfl⟩
  obtain ⟨c3, ec3⟩ : ∃ c, c = w5.heap.size + 1 + 1 := ⟨_, rfl⟩
  have L0 : LQ w5 (((w5.alloc (.cells MI 3)).alloc (.cells MI 3)).alloc (.cells (MT.setIfInBounds 0 (.bool !srv)) 4)) c1 c2 c3 (fun _ => 0) (fun _ => 0) (updF (fun _ => false) 0 (!srv)) :=
    lq0 (by rw [ec1]; exact hN3.1) (by rw [ec2]; exact hN3.2.1) (by rw [ec3]; exact hN3.2.2) HM.out.1 HM.out.2.1 HM.out.2.2.1 HM.out.2.2.2 (by omega) (by omega) b6
  rw [← ec3, ← ec2, ← ec1]
  have HL : Hid _ := And.intro L0 True.intro
  clear L0 hN3 b6 ec1 ec2 ec3 HM t0 mI mT
  have hfb5 : fb < w5.heap.size := by omega
  have hgb5 : gb < w5.heap.size := by omega
  go_wp2_with fail
  go_loopg [14, 15, 16, 17, 18, 19] N (fun q nv iv bv av kv jv wr => ∃ (i now : Nat) (cm st : Nat → Int) (va : Nat → Bool), i ≤ N ∧ q = N - i ∧ iv = .int .i64 (i : Int) ∧ nv = .int .i64 (now : Int) ∧ PBk srv A i now cm st va ∧ LQ w5 wr c1 c2 c3 cm st va)
  case atStart => exact ⟨0, 0, _, _, _, by omega, by omega, rfl, rfl, PBk.zero srv A, HL.out.1⟩
  case round =>
    obtain ⟨i, now, cm, st, va, hi, hq, rfl, rfl, hK, hL⟩ := hrel
    have hsz : w5.heap.size ≤ wr.heap.size := hL.bw.size
    by_cases hlt : i < N
    · obtain ⟨o, eo⟩ : ∃ o, o = pobsAt srv A i := ⟨_, rfl⟩
      have hYi := HC.out.2.2.2.2.1 i hlt
      have hcf := HG.out.2.1 i (by rw [HG.out.2.2]; exact hlt)
      have hcg := HG.out.1 i (by rw [HG.out.2.2]; exact hlt)
      rw [SPathObs.at Y i (by rw [HC.out.2.2.2.1]; exact hlt), hYi, ← eo] at hcf hcg
      obtain ⟨ao, eao, hao⟩ := pobs_ad srv A HC.out.2.2.2.2.2.1 i
      rw [← eo] at eao
      have hbc : ∀ (b k : Nat), b < w4.heap.size → wr.cell? ⟨b, k, none⟩ = w4.cell? ⟨b, k, none⟩ := fun b k hb => (hL.bw.cell (p := ⟨b, k, none⟩) (by show b < _; omega)).trans (H5.out.1.cell (p := ⟨b, k, none⟩) hb)
      obtain ⟨q0, q1, q2, q3, q4⟩ := o
      dsimp only at eao
      subst eao
      dsimp only [SPathObs.c] at hcf hcg
      have cq0 : wr.cell? ⟨fb, fo + i * 5, none⟩ = some (.int .i64 q0) := (hbc fb _ hfb).trans (hcf 0 (by omega))
      have cq4 : wr.cell? ⟨fb, fo + i * 5 + 4, none⟩ = some (.bool q4) := (hbc fb _ hfb).trans (hcf 4 (by omega))
      have cg0 : wr.cell? ⟨gb, go + i * 5, none⟩ = some (.int .i64 q0) := (hbc gb _ hgb).trans (hcg 0 (by omega))
      have cg1 : wr.cell? ⟨gb, go + i * 5 + 1, none⟩ = some (.int .i64 (ao : Int)) := (hbc gb _ hgb).trans (hcg 1 (by omega))
      have cg2 : wr.cell? ⟨gb, go + i * 5 + 2, none⟩ = some (.int .i64 q2) := (hbc gb _ hgb).trans (hcg 2 (by omega))
      have cg3 : wr.cell? ⟨gb, go + i * 5 + 3, none⟩ = some (.bool q3) := (hbc gb _ hgb).trans (hcg 3 (by omega))
      have cg4 : wr.cell? ⟨gb, go + i * 5 + 4, none⟩ = some (.bool q4) := (hbc gb _ hgb).trans (hcg 4 (by omega))
      have hgbr : gb < wr.heap.size := by omega
      have hfbr : fb < wr.heap.size := by omega
      have HR : Hid _ := And.intro hK (And.intro hL (And.intro eo hq))
      have n0 : (q0 != q0) = false := by simp
      have n4 : (q4 != q4) = false := by simp
      have z1 : decide ((ao : Int) < 0) = false := by rw [decide_eq_false_iff_not]; omega
      have z2 : decide (255 < (ao : Int)) = false := by rw [decide_eq_false_iff_not]; omega
      clear hK hL eo hq hcf hcg hbc hYi
      go_upto_region 19 with fail
      go_quiet (fail)
      go_upto_if 104 with fail
      go_cut [16] from 67 to 323 (fun v16 wx => v16 = .pointer (some ⟨wr.heap.size, 0, none⟩) ∧ LY w5 wx c1 c2 c3 cm st va wr.heap.size ⟨q0, (ao : Int), q2, q3, q4⟩)
      case first =>
        go_wp2_with fail
        go_meet
        exact ⟨rfl, (LY.new HR.out.2.1 ⟨q0, (ao : Int), q2, q3, q4⟩).drewN _⟩
      case rest =>
      obtain ⟨rfl, R1⟩ := hcut
      obtain ⟨bx, ebx⟩ : ∃ b, b = wr.heap.size := ⟨_, rfl⟩
      rw [← ebx] at R1 ⊢
      have hbp : ∀ k, wc.cell? ⟨pb, k, none⟩ = w5.cell? ⟨pb, k, none⟩ := fun k => R1.bo.bw.cell (p := ⟨pb, k, none⟩) hpb
      have hcp := H5.out.2.1 i (by rw [← HC.out.2.2.2.2.2.2]; exact hlt)
      have hrp := H5.out.2.2.1 i (by rw [← HC.out.2.2.2.2.2.2]; exact hlt)
      obtain ⟨o1, eo1⟩ : ∃ o, o = A.getD i default := ⟨_, rfl⟩
      obtain ⟨up, eup⟩ : ∃ u, u = Up i := ⟨_, rfl⟩
      have hbi := HC.out.2.2.2.2.2.1 i
      rw [← eo1, ← eup] at hcp hrp
      rw [← eo1] at hbi
      obtain ⟨oa, oc, eu⟩ := hrp.form
      obtain ⟨k0, k1, k2, D⟩ := o1
      obtain ⟨on, eon⟩ : ∃ n, n = D.length := ⟨_, rfl⟩
      have eu' : up = .slice oa on oc := by rw [eon]; exact eu
      subst eu'
      dsimp only [SPathOp.c] at hcp
      have cp0 : wc.cell? ⟨pb, po + i * 4, none⟩ = some (.int .i64 k0) := (hbp _).trans (hcp 0 (by omega))
      have cp1 : wc.cell? ⟨pb, po + i * 4 + 1, none⟩ = some (.int .i64 k1) := (hbp _).trans (hcp 1 (by omega))
      have cp2 : wc.cell? ⟨pb, po + i * 4 + 2, none⟩ = some (.int .i64 k2) := (hbp _).trans (hcp 2 (by omega))
      obtain ⟨y0, y1, y2, y3, y4⟩ := R1.y
      dsimp only at y0 y1 y2 y3 y4
      have hszc : w5.heap.size ≤ wc.heap.size := R1.bo.bw.size
      have I := prunP_inv srv A HC.out.2.2.2.2.2.1 i
      have H1c : Hid _ := And.intro R1 (And.intro (hcp 3 (by omega)) (And.intro hrp (And.intro eo1 (And.intro hbi I))))
      clear R1 hbp hcp hrp hbi eo1 eup eu eon I cq0 cq4 cg0 cg1 cg2 cg3 cg4 n0 n4 z1 z2 ebx hgbr hfbr
      go_upto_if 107 with fail
      go_cut [14, 17, 18, 19] from 105 to 323 (fun v14 v17 v18 v19 wx => ∃ (now2 : Nat) (cm2 st2 : Nat → Int) (va2 : Nat → Bool), v14 = .int .i64 (now2 : Int) ∧ PBk srv A (i + 1) now2 cm2 st2 va2 ∧ LY w5 wx c1 c2 c3 cm2 st2 va2 bx ⟨q0, (ao : Int), q2, q3, q4⟩)
      case first =>
        by_cases hq0 : q0 = 0
        case neg =>
          as_aux_lemma =>
          have hb := HR.out.1.bad (by rw [← HR.out.2.2.1]; exact hq0)
          have HB : Hid _ := And.intro hb True.intro
          have f0 : (q0 == 0) = false := by simpa using hq0
          clear hb
          go_wp2_with fail
          go_meet
          exact ⟨_, _, _, _, rfl, HB.out.1, H1c.out.1⟩
        subst hq0
        have hc0 : (pobsAt srv A i).f0 = 0 := by rw [← HR.out.2.2.1]
        have hkd := pobs_kind srv A i hc0
        rw [← H1c.out.2.2.2.1] at hkd
        dsimp only at hkd
        obtain rfl | rfl | rfl | rfl := hkd
        · as_aux_lemma =>
          have hb := HR.out.1.came (by rw [← H1c.out.2.2.2.1]) hc0
          rw [← H1c.out.2.2.2.1] at hb
          dsimp only at hb
          obtain ⟨u1, u2, u3, u4, hb⟩ := hb
          obtain ⟨a, rfl⟩ := Int.eq_ofNat_of_zero_le u1
          rw [Int.toNat_natCast] at hb
          obtain ⟨C, eC⟩ : ∃ C, C = cm a := ⟨_, rfl⟩
          have bC := H1c.out.2.2.2.2.2.cm a
          rw [← HR.out.1.cm, ← eC] at bC
          rw [← eC] at hb
          have ha : a < 256 := by omega
          have hcC := H1c.out.1.bo.r1.cell a ha
          rw [← eC] at hcC
          have hfC := H1c.out.1.bo.r1.free a
          have HB : Hid _ := And.intro hb True.intro
          clear hb eC y0 y1 y2 y3 y4 hc0
          go_upto_region 25 with fail
          go_region
          all_goals
            go_wp2_with fail
            go_meet
            exact ⟨_, _, _, _, rfl, HB.out.1, (H1c.out.1.drewN _).set1 a _⟩
        · as_aux_lemma =>
          have hb := HR.out.1.send (by rw [← H1c.out.2.2.2.1]) hc0
          rw [← H1c.out.2.2.2.1] at hb
          dsimp only at hb
          obtain ⟨u3, u4, u5, hb⟩ := hb
          obtain ⟨C, eC⟩ : ∃ C, C = cm now := ⟨_, rfl⟩
          obtain ⟨S, eS⟩ : ∃ S, S = st now := ⟨_, rfl⟩
          obtain ⟨V, eV⟩ : ∃ V, V = va now := ⟨_, rfl⟩
          have bC := H1c.out.2.2.2.2.2.cm now
          rw [← HR.out.1.cm, ← eC] at bC
          have bS := H1c.out.2.2.2.2.2.st now
          rw [← HR.out.1.st, ← eS] at bS
          have ha : now < 256 := by rw [HR.out.1.now]; exact H1c.out.2.2.2.2.2.ad
          rw [← eV, ← eS, ← eC] at u5
          rw [← eS] at hb
          have hcS := H1c.out.1.bo.r2.cell now ha
          rw [← eS] at hcS
          have hfS := H1c.out.1.bo.r2.free now
          have HB : Hid _ := And.intro hb (And.intro eC eV)
          clear hb eS eC eV y0 y1 y2 y3 y4 hc0
          go_upto_region 27 with fail
          go_cut [] from 135 to 323 (fun wx => LY w5 wx c1 c2 c3 cm (updF st now (S + k1)) va bx ⟨0, (ao : Int), q2, q3, q4⟩)
          case first =>
            go_region
            all_goals
              go_wp2_with fail
              go_meet
              exact (H1c.out.1.drewN _).set2 now _
          case rest =>
          have R2 := hcut
          have x1 := R2.bo.r1.cell now ha
          have x2 := R2.bo.r2.cell now ha
          have x3 := R2.bo.r3.cell now ha
          rw [← HB.out.2.1] at x1
          rw [updF_at] at x2
          rw [← HB.out.2.2] at x3
          have H2 : Hid _ := R2
          clear R2 hcS hfS cp0 cp1 cp2 hcut
          cases V with
          | true =>
            as_aux_lemma =>
            clear u5
            go_upto_region 28 with fail
            go_quiet (fail)
            go_wp2_with fail
            go_meet
            exact ⟨_, _, _, _, rfl, HB.out.1, H2.out.drewN _⟩
          | false =>
            as_aux_lemma =>
            have u6 := u5 rfl
            have z5 : decide (3 * C < S + k1) = false := by rw [decide_eq_false_iff_not]; omega
            clear u5
            go_upto_region 28 with fail
            go_quiet (fail)
            go_wp2_with fail
            go_meet
            exact ⟨_, _, _, _, rfl, HB.out.1, H2.out.drewN _⟩
        · as_aux_lemma =>
          have hb := HR.out.1.chal (by rw [← H1c.out.2.2.2.1]) hc0
          have HB : Hid _ := And.intro hb True.intro
          clear hb y1 y2 y3 y4 hc0
          go_wp2_with fail
          go_meet
          exact ⟨_, _, _, _, rfl, HB.out.1, H1c.out.1⟩
        · as_aux_lemma =>
          have hb := HR.out.1.answ (by rw [← H1c.out.2.2.2.1]) hc0
          rw [← HR.out.2.2.1, ← H1c.out.2.2.2.1] at hb
          dsimp only at hb
          have HB : Hid _ := And.intro hb True.intro
          clear hb hc0 cp1 cp2 y0
          go_wp2_with fail
          go_loopg [17, 18] i (fun q av kv wx => ∃ k : Nat, k ≤ i ∧ q = i - k ∧ kv = .int .i64 (k : Int) ∧ av = .bool (askB srv A D k) ∧ LY w5 wx c1 c2 c3 cm st va bx ⟨0, (ao : Int), q2, q3, q4⟩)
          case atStart => exact ⟨0, by omega, by omega, rfl, rfl, H1c.out.1⟩
          case round =>
            obtain ⟨k, hk, hqk, rfl, rfl, R2⟩ := hrel
            obtain ⟨bk, ebk⟩ : ∃ b, b = askB srv A D k := ⟨_, rfl⟩
            rw [← ebk]
            obtain ⟨y0, y1, y2, y3, y4⟩ := R2.y
            dsimp only at y0 y1 y2 y3 y4
            by_cases hki : k < i
            · have hcpk := H5.out.2.1 k (by rw [← HC.out.2.2.2.2.2.2]; omega)
              have hrpk := H5.out.2.2.1 k (by rw [← HC.out.2.2.2.2.2.2]; omega)
              have hcgk := HG.out.1 k (by rw [HG.out.2.2]; omega)
              rw [SPathObs.at Y k (by rw [HC.out.2.2.2.1]; omega), HC.out.2.2.2.2.1 k (by omega)] at hcgk
              have hbp : ∀ j, wr.cell? ⟨pb, j, none⟩ = w5.cell? ⟨pb, j, none⟩ := fun j => R2.bo.bw.cell (p := ⟨pb, j, none⟩) hpb
              have hbc : ∀ (b j : Nat), b < w4.heap.size → wr.cell? ⟨b, j, none⟩ = w4.cell? ⟨b, j, none⟩ := fun b j hb => (R2.bo.bw.cell (p := ⟨b, j, none⟩) (by show b < _; omega)).trans (H5.out.1.cell (p := ⟨b, j, none⟩) hb)
              obtain ⟨ok, eok⟩ : ∃ o, o = A.getD k default := ⟨_, rfl⟩
              obtain ⟨pk, epk⟩ : ∃ o, o = pobsAt srv A k := ⟨_, rfl⟩
              obtain ⟨uk, euk⟩ : ∃ u, u = Up k := ⟨_, rfl⟩
              have hbk := HC.out.2.2.2.2.2.1 k
              rw [← eok, ← euk] at hcpk hrpk
              rw [← eok] at hbk
              rw [← epk] at hcgk
              obtain ⟨ka, kc, eu⟩ := hrpk.form
              obtain ⟨kk, l1, l2, Dk⟩ := ok
              obtain ⟨cc, m1, m2, m3, m4⟩ := pk
              obtain ⟨kn, ekn⟩ : ∃ n, n = Dk.length := ⟨_, rfl⟩
              have eu' : uk = .slice ka kn kc := by rw [ekn]; exact eu
              subst eu'
              dsimp only [SPathOp.c, SPathObs.c] at hcpk hcgk
              dsimp only at hbk
              have cpk0 : wr.cell? ⟨pb, po + k * 4, none⟩ = some (.int .i64 kk) := (hbp _).trans (hcpk 0 (by omega))
              have cpk3 : wr.cell? ⟨pb, po + k * 4 + 3, none⟩ = some (.slice ka kn kc) := (hbp _).trans (hcpk 3 (by omega))
              have cpi3 : wr.cell? ⟨pb, po + i * 4 + 3, none⟩ = some (.slice oa on oc) := (hbp _).trans H1c.out.2.1
              have cgk0 : wr.cell? ⟨gb, go + k * 5, none⟩ = some (.int .i64 cc) := (hbc gb _ hgb).trans (hcgk 0 (by omega))
              have CQ : ∀ n : Nat, Calls Try.prog 7 #[.slice ka kn kc, .slice oa on oc] (wr.drewN n) fun e w' => e = .returned (.bool (decide (Dk = D))) ∧ w' = wr.drewN n := fun n =>
                sameB _ _ Dk D _ (row_drewN (Row.below hrpk R2.bo.bw) n) (row_drewN (Row.below H1c.out.2.2.1 R2.bo.bw) n) hbk H1c.out.2.2.2.2.1
              obtain ⟨bq, ebq⟩ : ∃ b, b = decide (Dk = D) := ⟨_, rfl⟩
              rw [← ebq] at CQ
              have hkN : k < N := by omega
              have H2 : Hid _ := And.intro R2 (And.intro ebk (And.intro eok (And.intro epk (And.intro ebq (And.intro CQ hqk)))))
              clear R2 ebk eok epk ebq CQ hcpk hrpk hcgk hbp hbc hbk eu ekn euk hqk
              cases bk with
              | true =>
                as_aux_lemma =>
                go_upto_region 35 with fail
                go_quiet (fail)
                go_wp2_with fail
                go_roundg (i - (k + 1))
                case measure => (have := H2.out.2.2.2.2.2.2; omega)
                case rel => exact ⟨k + 1, by omega, by omega, by go_num, by rw [askB_all srv A D k H2.out.2.1.symm], H2.out.1.drewN _⟩
              | false =>
                by_cases e3 : kk = 3
                case neg =>
                  as_aux_lemma =>
                  have f3 : (kk == 3) = false := by simpa using e3
                  go_upto_region 35 with fail
                  go_quiet (fail)
                  go_wp2_with fail
                  go_roundg (i - (k + 1))
                  case measure => (have := H2.out.2.2.2.2.2.2; omega)
                  case rel => exact ⟨k + 1, by omega, by omega, by go_num, by rw [askB_k srv A D k H2.out.2.1.symm (by rw [← H2.out.2.2.1]; exact e3)], H2.out.1.drewN _⟩
                subst e3
                by_cases e0 : cc = 0
                case neg =>
                  as_aux_lemma =>
                  have f0 : (cc == 0) = false := by simpa using e0
                  go_upto_region 35 with fail
                  go_quiet (fail)
                  go_wp2_with fail
                  go_roundg (i - (k + 1))
                  case measure => (have := H2.out.2.2.2.2.2.2; omega)
                  case rel => exact ⟨k + 1, by omega, by omega, by go_num, by rw [askB_c srv A D k H2.out.2.1.symm (by rw [← H2.out.2.2.2.1]; exact e0)], H2.out.1.drewN _⟩
                subst e0
                as_aux_lemma =>
                go_upto_region 35 with fail
                go_quiet (first | (go_at_call 7; exact Calls.quiet_of_same (H2.out.2.2.2.2.2.1 _)))
                go_wp2_with fail
                go_roundg (i - (k + 1))
                case measure => (have := H2.out.2.2.2.2.2.2; omega)
                case rel => exact ⟨k + 1, by omega, by omega, by go_num, by rw [askB_d srv A D k H2.out.2.1.symm (by rw [← H2.out.2.2.1]) (by rw [← H2.out.2.2.2.1]), ← H2.out.2.2.1, H2.out.2.2.2.2.1], H2.out.1.drewN _⟩
            · have hkn : ¬ (k : Int) < (i : Int) := by omega
              have H2 : Hid _ := And.intro R2 (And.intro ebk hqk)
              clear R2 ebk hqk
              have hke : k = i := by omega
              cases q4 with
              | false =>
                as_aux_lemma =>
                go_wp2_with fail
                go_loopg [19] 1 (fun q jv wx => jv = .int .i64 0 ∧ LY w5 wx c1 c2 c3 cm st va bx ⟨0, (ao : Int), q2, q3, false⟩)
                case atStart => exact ⟨rfl, H2.out.1⟩
                case round =>
                  obtain ⟨rfl, R3⟩ := hrel
                  obtain ⟨y0, y1, y2, y3, y4⟩ := R3.y
                  dsimp only at y0 y1 y2 y3 y4
                  have H3 : Hid _ := R3
                  clear R3
                  by_cases hi0 : 0 < i
                  · have hi0' : (0 : Int) < (i : Int) := by omega
                    go_wp2_with fail
                    go_meet
                    exact ⟨_, _, _, _, rfl, HB.out.1.1 True.intro, H3.out⟩
                  · have hi0' : ¬ (0 : Int) < (i : Int) := by omega
                    go_wp2_with fail
                    go_meet
                    exact ⟨_, _, _, _, rfl, HB.out.1.1 True.intro, H3.out⟩
              | true =>
                obtain ⟨⟨qa, hqa, hqb⟩, hbk⟩ := HB.out.1.2 rfl
                have hbt : bk = true := by rw [H2.out.2.1, hke]; exact askB_hit srv A D qa hqb i hqa
                subst hbt
                have HK : Hid _ := And.intro hbk True.intro
                clear hbk hqa hqb
                go_wp2_with fail
                go_loopg [19] i (fun q jv wx => ∃ j : Nat, j ≤ i ∧ q = i - j ∧ jv = .int .i64 (j : Int) ∧ LY w5 wx c1 c2 c3 cm st (vUp srv A D ⟨0, (ao : Int), q2, q3, true⟩ va j) bx ⟨0, (ao : Int), q2, q3, true⟩)
                case atStart => exact ⟨0, by omega, by omega, rfl, H2.out.1⟩
                case round =>
                  obtain ⟨j, hj, hqj, rfl, R3⟩ := hrel
                  obtain ⟨y0, y1, y2, y3, y4⟩ := R3.y
                  dsimp only at y0 y1 y2 y3 y4
                  by_cases hji : j < i
                  · have hcpk := H5.out.2.1 j (by rw [← HC.out.2.2.2.2.2.2]; omega)
                    have hrpk := H5.out.2.2.1 j (by rw [← HC.out.2.2.2.2.2.2]; omega)
                    have hcgk := HG.out.1 j (by rw [HG.out.2.2]; omega)
                    rw [SPathObs.at Y j (by rw [HC.out.2.2.2.1]; omega), HC.out.2.2.2.2.1 j (by omega)] at hcgk
                    have hbp : ∀ t, wr.cell? ⟨pb, t, none⟩ = w5.cell? ⟨pb, t, none⟩ := fun t => R3.bo.bw.cell (p := ⟨pb, t, none⟩) hpb
                    have hbc : ∀ (b t : Nat), b < w4.heap.size → wr.cell? ⟨b, t, none⟩ = w4.cell? ⟨b, t, none⟩ := fun b t hb => (R3.bo.bw.cell (p := ⟨b, t, none⟩) (by show b < _; omega)).trans (H5.out.1.cell (p := ⟨b, t, none⟩) hb)
                    obtain ⟨ok, eok⟩ : ∃ o, o = A.getD j default := ⟨_, rfl⟩
                    obtain ⟨pk, epk⟩ : ∃ o, o = pobsAt srv A j := ⟨_, rfl⟩
                    obtain ⟨uk, euk⟩ : ∃ u, u = Up j := ⟨_, rfl⟩
                    obtain ⟨aj, eaj, haj⟩ := pobs_ad srv A HC.out.2.2.2.2.2.1 j
                    have hbk := HC.out.2.2.2.2.2.1 j
                    rw [← eok, ← euk] at hcpk hrpk
                    rw [← eok] at hbk
                    rw [← epk] at hcgk eaj
                    obtain ⟨ka, kc, eu⟩ := hrpk.form
                    obtain ⟨kk, l1, l2, Dk⟩ := ok
                    obtain ⟨cc, m1, m2, m3, m4⟩ := pk
                    dsimp only at eaj
                    subst eaj
                    obtain ⟨kn, ekn⟩ : ∃ n, n = Dk.length := ⟨_, rfl⟩
                    have eu' : uk = .slice ka kn kc := by rw [ekn]; exact eu
                    subst eu'
                    dsimp only [SPathOp.c, SPathObs.c] at hcpk hcgk
                    dsimp only at hbk
                    have cpk0 : wr.cell? ⟨pb, po + j * 4, none⟩ = some (.int .i64 kk) := (hbp _).trans (hcpk 0 (by omega))
                    have cpk3 : wr.cell? ⟨pb, po + j * 4 + 3, none⟩ = some (.slice ka kn kc) := (hbp _).trans (hcpk 3 (by omega))
                    have cpi3 : wr.cell? ⟨pb, po + i * 4 + 3, none⟩ = some (.slice oa on oc) := (hbp _).trans H1c.out.2.1
                    have cgk0 : wr.cell? ⟨gb, go + j * 5, none⟩ = some (.int .i64 cc) := (hbc gb _ hgb).trans (hcgk 0 (by omega))
                    have cgk1 : wr.cell? ⟨gb, go + j * 5 + 1, none⟩ = some (.int .i64 (aj : Int)) := (hbc gb _ hgb).trans (hcgk 1 (by omega))
                    have CQ : ∀ n : Nat, Calls Try.prog 7 #[.slice ka kn kc, .slice oa on oc] (wr.drewN n) fun e w' => e = .returned (.bool (decide (Dk = D))) ∧ w' = wr.drewN n := fun n =>
                      sameB _ _ Dk D _ (row_drewN (Row.below hrpk R3.bo.bw) n) (row_drewN (Row.below H1c.out.2.2.1 R3.bo.bw) n) hbk H1c.out.2.2.2.2.1
                    obtain ⟨bq, ebq⟩ : ∃ b, b = decide (Dk = D) := ⟨_, rfl⟩
                    rw [← ebq] at CQ
                    have hjN : j < N := by omega
                    obtain ⟨vu, evu⟩ : ∃ v, v = vUp srv A D ⟨0, (ao : Int), q2, q3, true⟩ va j := ⟨_, rfl⟩
                    rw [← evu] at R3
                    have H3 : Hid _ := And.intro R3 (And.intro evu (And.intro eok (And.intro epk (And.intro ebq (And.intro CQ hqj)))))
                    clear R3 evu eok epk ebq CQ hcpk hrpk hcgk hbp hbc hbk eu ekn euk hqj cp0
                    by_cases e3 : kk = 3
                    case neg =>
                      as_aux_lemma =>
                      have f3 : (kk == 3) = false := by simpa using e3
                      go_upto_region 41 with fail
                      go_quiet (fail)
                      go_wp2_with fail
                      go_roundg (i - (j + 1))
                      case measure => (have := H3.out.2.2.2.2.2.2; omega)
                      case rel => exact ⟨j + 1, by omega, by omega, by go_num, by rw [vUp_no srv A D _ va j (fun h => e3 (by have := h.1; rw [← H3.out.2.2.1] at this; exact this)), ← H3.out.2.1]; exact H3.out.1.drewN _⟩
                    subst e3
                    by_cases e0 : cc = 0
                    case neg =>
                      as_aux_lemma =>
                      have f0 : (cc == 0) = false := by simpa using e0
                      go_upto_region 41 with fail
                      go_quiet (fail)
                      go_wp2_with fail
                      go_roundg (i - (j + 1))
                      case measure => (have := H3.out.2.2.2.2.2.2; omega)
                      case rel => exact ⟨j + 1, by omega, by omega, by go_num, by rw [vUp_no srv A D _ va j (fun h => e0 (by have := h.2.1; rw [← H3.out.2.2.2.1] at this; exact this)), ← H3.out.2.1]; exact H3.out.1.drewN _⟩
                    subst e0
                    go_upto_region 41 with fail
                    go_quiet (first | (go_at_call 7; exact Calls.quiet_of_same (H3.out.2.2.2.2.2.1 _)))
                    cases bq with
                    | false =>
                      as_aux_lemma =>
                      go_wp2_with fail
                      go_roundg (i - (j + 1))
                      case measure => (have := H3.out.2.2.2.2.2.2; omega)
                      case rel => exact ⟨j + 1, by omega, by omega, by go_num, by rw [vUp_no srv A D _ va j (fun h => by have := h.2.2; rw [← H3.out.2.2.1] at this; exact of_decide_eq_false H3.out.2.2.2.2.1.symm this), ← H3.out.2.1]; exact H3.out.1.drewN _⟩
                    | true =>
                      have hAk : AskedAt srv A D j := ⟨by rw [← H3.out.2.2.1], by rw [← H3.out.2.2.2.1], by rw [← H3.out.2.2.1]; exact of_decide_eq_true H3.out.2.2.2.2.1.symm⟩
                      have hup := vUp_yes srv A D ⟨0, (ao : Int), q2, q3, true⟩ va j aj ao hAk (by rw [← H3.out.2.2.2.1]) rfl
                      rw [← H3.out.2.1] at hup
                      obtain ⟨V, eV⟩ : ∃ V, V = vu aj := ⟨_, rfl⟩
                      rw [← eV] at hup
                      go_upto_region 42 with fail
                      obtain ⟨W, eW⟩ : ∃ W, W = wr.drewN nq := ⟨_, rfl⟩
                      rw [← eW]
                      have R4 : LY w5 W c1 c2 c3 cm st vu bx ⟨0, (ao : Int), q2, q3, true⟩ := by rw [eW]; exact H3.out.1.drewN nq
                      have g1 : W.cell? ⟨gb, go + j * 5 + 1, none⟩ = some (.int .i64 (aj : Int)) := by rw [eW]; exact cgk1
                      have x3 := R4.bo.r3.cell aj haj
                      rw [← eV] at x3
                      have fr3 := R4.bo.r3.free aj
                      obtain ⟨v0, v1, v2, v3, v4⟩ := R4.y
                      dsimp only at v1 v3
                      have HU : Hid _ := And.intro hup (And.intro R4 eV)
                      clear hup eV hAk R4 eW v0 v2 v4 y0 y1 y2 y3 y4 cgk0 cgk1 cpk0 cpk3 cpi3
                      cases V with
                      | true =>
                        as_aux_lemma =>
                        clear v1 v3
                        go_region
                        all_goals
                          go_wp2_with fail
                          go_roundg (i - (j + 1))
                          case measure => (have := H3.out.2.2.2.2.2.2; omega)
                          case rel => exact ⟨j + 1, by omega, by omega, by go_num, by rw [HU.out.1]; exact (HU.out.2.1.drewN _).set3 aj true⟩
                      | false =>
                        cases q3 with
                        | true =>
                          by_cases ej : aj = ao
                          · as_aux_lemma =>
                            have f1 : ((aj : Int) == (ao : Int)) = true := by rw [ej]; simp
                            have f2 : ((aj : Int) != (ao : Int)) = false := by rw [ej]; simp
                            have hv : Hid ((false || (true && decide (aj = ao)) || decide (aj ≠ ao)) = true) := by show _ = _; simp [ej]
                            clear ej
                            go_region
                            all_goals
                              go_wp2_with fail
                              go_roundg (i - (j + 1))
                              case measure => (have := H3.out.2.2.2.2.2.2; omega)
                              case rel => exact ⟨j + 1, by omega, by omega, by go_num, by rw [HU.out.1, hv.out]; exact (HU.out.2.1.drewN _).set3 aj true⟩
                          · as_aux_lemma =>
                            have f1 : ((aj : Int) == (ao : Int)) = false := by simp; omega
                            have f2 : ((aj : Int) != (ao : Int)) = true := by simp; omega
                            have hv : Hid ((false || (true && decide (aj = ao)) || decide (aj ≠ ao)) = true) := by show _ = _; simp [ej]
                            clear ej
                            go_region
                            all_goals
                              go_wp2_with fail
                              go_roundg (i - (j + 1))
                              case measure => (have := H3.out.2.2.2.2.2.2; omega)
                              case rel => exact ⟨j + 1, by omega, by omega, by go_num, by rw [HU.out.1, hv.out]; exact (HU.out.2.1.drewN _).set3 aj true⟩
                        | false =>
                          by_cases ej : aj = ao
                          · as_aux_lemma =>
                            have f1 : ((aj : Int) == (ao : Int)) = true := by rw [ej]; simp
                            have f2 : ((aj : Int) != (ao : Int)) = false := by rw [ej]; simp
                            have hv : Hid ((false || (false && decide (aj = ao)) || decide (aj ≠ ao)) = false) := by show _ = _; simp [ej]
                            clear ej
                            go_region
                            all_goals
                              go_wp2_with fail
                              go_roundg (i - (j + 1))
                              case measure => (have := H3.out.2.2.2.2.2.2; omega)
                              case rel => exact ⟨j + 1, by omega, by omega, by go_num, by rw [HU.out.1, hv.out]; exact (HU.out.2.1.drewN _).set3 aj false⟩
                          · as_aux_lemma =>
                            have f1 : ((aj : Int) == (ao : Int)) = false := by simp; omega
                            have f2 : ((aj : Int) != (ao : Int)) = true := by simp; omega
                            have hv : Hid ((false || (false && decide (aj = ao)) || decide (aj ≠ ao)) = true) := by show _ = _; simp [ej]
                            clear ej
                            go_region
                            all_goals
                              go_wp2_with fail
                              go_roundg (i - (j + 1))
                              case measure => (have := H3.out.2.2.2.2.2.2; omega)
                              case rel => exact ⟨j + 1, by omega, by omega, by go_num, by rw [HU.out.1, hv.out]; exact (HU.out.2.1.drewN _).set3 aj true⟩
                  · have hjn : ¬ (j : Int) < (i : Int) := by omega
                    have hje : j = i := by omega
                    have H3 : Hid _ := And.intro R3 hje
                    clear R3 hje
                    as_aux_lemma =>
                    go_wp2_with fail
                    go_meet
                    exact ⟨_, _, _, _, rfl, HK.out.1, by have := H3.out.1; rw [H3.out.2] at this; exact this⟩
      case rest =>
      obtain ⟨now2, cm2, st2, va2, rfl, hK2, R2⟩ := hcut
      have I2 := prunP_inv srv A HC.out.2.2.2.2.2.1 (i + 1)
      have hO := hK2.obs I2 (by omega)
      rw [← HR.out.2.2.1] at hO
      dsimp only at hO
      obtain ⟨e1, hn2, h3, h20, h2⟩ := hO
      obtain rfl : ao = now2 := by omega
      obtain ⟨C, eC⟩ : ∃ C, C = cm2 ao := ⟨_, rfl⟩
      obtain ⟨S, eS⟩ : ∃ S, S = st2 ao := ⟨_, rfl⟩
      obtain ⟨V, eV⟩ : ∃ V, V = va2 ao := ⟨_, rfl⟩
      have bC := I2.cm ao
      have bS := I2.st ao
      rw [← hK2.cm, ← eC] at bC
      rw [← hK2.st, ← eS] at bS
      rw [← eC, ← eS] at h2
      rw [← eV] at h3
      have x1 := R2.bo.r1.cell ao hn2
      have x2 := R2.bo.r2.cell ao hn2
      have x3 := R2.bo.r3.cell ao hn2
      rw [← eC] at x1
      rw [← eS] at x2
      rw [← eV] at x3
      obtain ⟨z0, z1, z2, z3, z4⟩ := R2.y
      dsimp only at z0 z1 z2 z3 z4
      have n1 : ((ao : Int) != (ao : Int)) = false := by simp
      have n2 : decide (q2 < 0) = false := by rw [decide_eq_false_iff_not]; omega
      have HZ : Hid _ := And.intro hK2 R2
      clear hK2 R2 I2 eC eS eV H1c cp0 cp1 cp2 y0 y1 y2 y3 y4 z0 z4 e1
      cases q3 with
      | true =>
        as_aux_lemma =>
        obtain rfl := h3 rfl
        clear h2 h3
        go_upto_region 43 with fail
        go_quiet (fail)
        go_wp2_with fail
        go_roundg (N - (i + 1))
        case measure => (have := HR.out.2.2.2; omega)
        case rel => exact ⟨i + 1, ao, cm2, st2, va2, by omega, rfl, by go_num, rfl, HZ.out.1, HZ.out.2.bo.drewN _⟩
      | false =>
        as_aux_lemma =>
        have h2' := h2 rfl
        have n3 : (q2 != max 0 (3 * C - S)) = false := by rw [h2']; simp
        clear h2 h3 h2'
        go_upto_region 43 with fail
        go_quiet (fail)
        go_wp2_with fail
        go_roundg (N - (i + 1))
        case measure => (have := HR.out.2.2.2; omega)
        case rel => exact ⟨i + 1, ao, cm2, st2, va2, by omega, rfl, by go_num, rfl, HZ.out.1, HZ.out.2.bo.drewN _⟩
    · obtain rfl : i = N := by omega
      go_wp2_with fail
      go_ret
      exact ⟨rfl, H5.out.2.2.2.trans (hL.bw.mono H5.out.2.2.2.size)⟩
end Go.Proofs.Ytdoglkjhmaiknaa
