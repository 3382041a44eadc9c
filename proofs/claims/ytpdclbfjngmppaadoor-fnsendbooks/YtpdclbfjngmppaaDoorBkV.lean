import Derived.Test.YtpdclbfjngmppaaDoorBkX
import Derived.Deep.RegionHeld3
import Derived.Deep.LoopGhost
import Derived.Deep.CutRange
import Derived.BigQuiet
namespace Go.Proofs.YtpdclbfjngmppaaDoor
open Go.RowKit
set_option linter.unusedVariables false
set_option linter.unusedSimpArgs false

theorem rowDrewN {w : World} {k : IntKind} {v : Value} {xs : List Int} (h : Row w k v xs) (n : Nat) : Row (w.drewN n) k v xs := h

set_option maxRecDepth 20000 in
set_option maxHeartbeats 40000000 in
theorem fnSendBooks_walk (v0 : Value) (x0 : List Int) (l0 : x0.length ≤ maxLen) (wf0 : ∀ x ∈ x0, (Lit.int .u8 x).wf = true)
    (w : World) (row0 : Row w .u8 v0 x0) (ht : TabF w) :
    Calls Tryd.prog 3 #[v0] w fun e w' => e = .returned (.bool true) ∧ Below w.heap.size w w' := by
  have hB := bytes_of_wf wf0
  have hl0 : x0.length ≤ 9223372036854775807 := Nat.le_trans l0 (by decide)
  by_cases hb0 : 1048576 < x0.length
  · obtain ⟨a0, c0, rfl⟩ := row0.form
    have hb0' : (1048576 : Int) < (x0.length : Int) := by omega
    generalize x0.length = m0 at *
    clear row0 hB wf0
    go_enter Tryd.func3, Tryd.ntmps3
    go_wp2
    go_ret
    exact ⟨rfl, Below.refl _ _⟩
  obtain ⟨A, eA⟩ : ∃ A, A = dsr x0 := ⟨_, rfl⟩
  have hg := dsr_good x0
  rw [← eA] at hg
  obtain ⟨N, eN⟩ : ∃ N, N = A.length := ⟨_, rfl⟩
  rw [← eN] at hg
  obtain ⟨hgd, hN1, hN2⟩ := hg
  have h0 : 0 < w.heap.size := cell_ltP ht.c0
  have CD : ∀ W : World, Below w.heap.size w W → Calls Tryd.prog 4 #[v0] W fun e w' => ∃ r U zs, e = .returned r ∧ OpS w' (W.heap.size + 1) r A U zs ∧ Below W.heap.size W w' := fun W hW => by
    rw [eA]
    exact drawSR v0 x0 W (row0.below hW) hB (by omega)
  have eC : srC A = 0 := by unfold srC; rw [if_neg (by omega)]
  have eY : srY A = sobs A := by unfold srY sobs; rw [if_neg (by omega)]
  have CS : ∀ (W : World) (v : Value), BRow 5 SSendOp.c SSendOp.d W v A → Calls Tryd.prog 5 #[v] W fun e w' => ∃ r, e = .returned (.tuple #[r, .int .i64 0]) ∧ BOwns 30 7 SSendObs.c SSendObs.d w' W.heap.size r (sobs A) ∧ Below W.heap.size W w' := fun W v hr => by
    have C := specSR v A W hr (by omega) (fun j hj => by have := (hgd.at j hj).1; omega) (fun j hj => (hgd.at j hj).2.1) (fun j hj => (hgd.at j hj).2.2)
    rw [eC, eY] at C
    exact C
  have CI : ∀ (W : World) (v : Value), Below w.heap.size w W → BRow 5 SSendOp.c SSendOp.d W v A → Calls Tryd.prog 6 #[v] W fun e w' => ∃ r, e = .returned (.tuple #[r, .int .i64 0]) ∧ BOwns 30 7 SSendObs.c SSendObs.d w' W.heap.size r (sobs A) ∧ Below W.heap.size W w' := fun W v hW hr => by
    have C := implSR v A W (ht.below hW h0) (Nat.lt_of_lt_of_le h0 hW.size) hr (by omega) (fun j hj => by have := (hgd.at j hj).1; omega) (fun j hj => (hgd.at j hj).2.2)
    rw [eC, eY] at C
    exact C
  have hlen : (sobs A).length = N := by rw [sobs_len, eN]
  have hnb : ¬ (1048576 : Int) < (x0.length : Int) := by omega
  obtain ⟨a0, c0, ev⟩ := row0.form
  subst ev
  have HC : Hid _ := And.intro CD (And.intro CS (And.intro CI (And.intro hlen (And.intro eN hgd))))
  obtain ⟨n7, e7⟩ : ∃ n7 : Nat, n7 = 65537 := ⟨_, rfl⟩
  have H7 : Hid (n7 = 65537) := e7
  have h7 : (65537 : Int) = (n7 : Int) := by omega
  have H7' : Hid _ := And.intro h7 True.intro
  obtain ⟨i0, hi0, hz0, hz1, hz2⟩ := info_parts (show (Tryd.prog.info? 4).map (fun i => (i.zero, i.size, i.bytes)) = some (some (.bool false), 1, 1) by kernel_rfl)
  clear CD CS CI hlen eN hgd row0 ht hB wf0 eC eY hb0 l0 e7 h7 eA h0
  generalize x0.length = m0 at *
  go_enter Tryd.func3, Tryd.ntmps3
  go_wp2_with fail
  go_at_call 4
  refine (HC.out.1 w (Below.refl _ _)).mono ?_
  rintro e w1 ⟨r1, U1, zs1, rfl, s1, b1⟩
  have H1 : Hid _ := And.intro s1 b1
  clear s1 b1
  go_wp2_with fail
  go_at_call 5
  refine (HC.out.2.1 w1 r1 H1.out.1.brow).mono ?_
  rintro e w2 ⟨r2, rfl, o2, b2⟩
  have H2 : Hid _ := And.intro o2 (H1.out.2.trans (b2.mono H1.out.2.size))
  clear o2 b2
  go_wp2_with fail
  go_at_call 4
  refine (HC.out.1 w2 H2.out.2).mono ?_
  rintro e w3 ⟨r3, U3, zs3, rfl, s3, b3⟩
  have H3 : Hid _ := And.intro s3 (And.intro (H2.out.2.trans (b3.mono H2.out.2.size)) (H2.out.1.below b3))
  clear s3 b3
  go_wp2_with fail
  go_at_call 6
  refine (HC.out.2.2.1 w3 r3 H3.out.2.1 H3.out.1.brow).mono ?_
  rintro e w4 ⟨r4, rfl, o4, b4⟩
  have H4 : Hid _ := And.intro o4 (And.intro (H3.out.2.1.trans (b4.mono H3.out.2.1.size)) (H3.out.2.2.below b4))
  clear o4 b4
  obtain ⟨gb, go, gc, ev, hgb, Ug, cg, rg⟩ := H4.out.2.2.row.at' (by rw [HC.out.2.2.2.1]; omega)
  rw [HC.out.2.2.2.1] at ev
  subst ev
  obtain ⟨fb, fo, fc, ev, hfb, Uf, cf, rf⟩ := H4.out.1.row.at' (by rw [HC.out.2.2.2.1]; omega)
  rw [HC.out.2.2.2.1] at ev
  subst ev
  have HG : Hid _ := And.intro cg (And.intro rg (And.intro cf rf))
  clear cg rg cf rf
  go_wp2_with fail
  go_at_call 4
  refine (HC.out.1 w4 H4.out.2.1).mono ?_
  rintro e w5 ⟨r5, U5, zs5, rfl, s5, b5⟩
  obtain ⟨pb, po, pc, ev, hpb, Up, cp, rp⟩ := s5.brow.at' (by rw [← HC.out.2.2.2.2.1]; omega)
  rw [← HC.out.2.2.2.2.1] at ev
  subst ev
  have H5 : Hid _ := And.intro b5 (And.intro cp (And.intro rp (H4.out.2.1.trans (b5.mono H4.out.2.1.size))))
  have hs45 : w4.heap.size ≤ w5.heap.size := b5.size
  clear s5 b5 cp rp
  go_wp2_with (at_make; refine wpList_make_full _ rfl _ _ 28 rfl w5.heap.size 4 i0 (.bool false) 1 Tryd.underlying28 hi0 hz0 hz1 .i64 .i64 65537 65537 n7 rfl rfl H7'.out.1 H7'.out.1 (by rw [hz2, H7.out]; decide) (by rw [H7.out]; decide) (by simp) ?_; intro w6 hown hg; have H6 : Hid _ := And.intro hown hg; clear hown hg)
  obtain ⟨lb, elb⟩ : ∃ lb, lb = w5.heap.size + 1 := ⟨_, rfl⟩
  have L0 : LB w5 w6 (.slice (some ⟨w5.heap.size, 0, none⟩) 0 0) [] lb (fun _ => false) := by
    have ba : Below w5.heap.size w5 (w5.alloc (.cells #[] 5)) := (Below.refl _ _).alloc (Nat.le_refl _) _
    have o0 : (w5.alloc (.cells #[] 5)).ownsRow w5.heap.size 5 1 (.slice (some ⟨w5.heap.size, 0, none⟩) 0 0) 0 [] := World.ownsRow_lit w5 #[] 0 (Nat.le_refl _) (by decide) rfl
    have b6 : Below (w5.alloc (.cells #[] 5)).heap.size (w5.alloc (.cells #[] 5)) w6 := (Below.refl _ _).grown H6.out.2 (Nat.le_refl _) (by intro k hk; cases hk)
    exact ⟨owns_below o0 b6, by have t := lob_make H7.out H6.out.1; rw [show (w5.alloc (.cells #[] 5)).heap.size = lb by rw [elb]; simp] at t; exact t, by omega, ba.trans (b6.mono ba.size)⟩
  rw [← elb]
  have HL : Hid _ := And.intro L0 True.intro
  clear L0 H6 elb H1 H2 H3 hz0 hz1 hz2 hi0
  have hfb5 : fb < w5.heap.size := by omega
  have hgb5 : gb < w5.heap.size := by omega
  go_loopg [8, 10, 11, 12, 13, 14, 15, 16, 17] N (fun q tv nv cv ev iv bv k1 en k2 wr => ∃ (i : Nat) (T : List Int) (lost : Nat → Bool) (next : Nat) (credit : Int) (ended : Bool), i ≤ N ∧ q = N - i ∧ iv = .int .i64 (i : Int) ∧ nv = .int .i64 (next : Int) ∧ cv = .int .i64 credit ∧ ev = .bool ended ∧ KB (srun A i).1 T lost next credit ended ∧ LB w5 wr tv T lb lost)
  case atStart => exact ⟨0, [], fun _ => false, 0, 0, false, by omega, by omega, rfl, rfl, rfl, rfl, KB.zero, HL.out.1⟩
  case round =>
    obtain ⟨i, T, lost, next, credit, ended, hi, hq, rfl, rfl, rfl, rfl, hK, hL⟩ := hrel
    obtain ⟨ta, tc, et⟩ := own_form hL.tx
    obtain ⟨tn, etn⟩ : ∃ n, n = T.length := ⟨_, rfl⟩
    rw [← etn] at et
    subst et
    have hsz : w5.heap.size ≤ wr.heap.size := hL.bw.size
    by_cases hlt : i < N
    · obtain ⟨o, eo⟩ : ∃ o, o = A.getD i default := ⟨_, rfl⟩
      obtain ⟨ob, eob⟩ : ∃ ob, ob = (sobs A).getD i default := ⟨_, rfl⟩
      have est : (sstep (srun A i).1 o).2 = ob := by rw [eob, eo]; exact (srun_at A i A.length (by have := HC.out.2.2.2.2.1; omega)).symm
      have enx : (srun A (i + 1)).1 = (sstep (srun A i).1 o).1 := by rw [eo]; rfl
      have I := srun_SI A i
      have hcf := HG.out.2.2.1 i (by rw [HC.out.2.2.2.1]; exact hlt)
      have hrf := HG.out.2.2.2 i (by rw [HC.out.2.2.2.1]; exact hlt)
      have hcg := HG.out.1 i (by rw [HC.out.2.2.2.1]; exact hlt)
      have hcp := H5.out.2.1 i (by rw [← HC.out.2.2.2.2.1]; exact hlt)
      have hrp := H5.out.2.2.1 i (by rw [← HC.out.2.2.2.2.1]; exact hlt)
      have ho3 := sobs_f3 A i (by rw [← HC.out.2.2.2.2.1]; exact hlt)
      have hgo := HC.out.2.2.2.2.2.at i (by rw [← HC.out.2.2.2.2.1]; exact hlt)
      rw [← eob] at hcf hrf hcg ho3
      rw [← eo] at hcp hrp hgo
      obtain ⟨uf, euf⟩ : ∃ u, u = Uf i := ⟨_, rfl⟩
      obtain ⟨ug, eug⟩ : ∃ u, u = Ug i := ⟨_, rfl⟩
      obtain ⟨up, eup⟩ : ∃ u, u = Up i := ⟨_, rfl⟩
      rw [← euf] at hcf hrf
      rw [← eug] at hcg
      rw [← eup] at hcp hrp
      obtain ⟨da, dc, eu⟩ := hrf.form
      obtain ⟨oa, oc, eu2⟩ := hrp.form
      obtain ⟨dn, edn⟩ : ∃ dn, dn = ob.f3.length := ⟨_, rfl⟩
      obtain ⟨on, eon⟩ : ∃ on, on = o.f3.length := ⟨_, rfl⟩
      have eu' : uf = .slice da dn dc := by rw [edn]; exact eu
      have eu2' : up = .slice oa on oc := by rw [eon]; exact eu2
      subst eu' eu2'
      have hbc : ∀ (b k : Nat), b < w4.heap.size → wr.cell? ⟨b, k, none⟩ = w4.cell? ⟨b, k, none⟩ := fun b k hb => (hL.bw.cell (p := ⟨b, k, none⟩) (by show b < _; omega)).trans (H5.out.1.cell (p := ⟨b, k, none⟩) hb)
      obtain ⟨q0, q1, q2, q3, q4, q5, q6⟩ := ob
      dsimp only [SSendObs.c] at hcf hcg
      dsimp only at edn ho3
      have cq0 : wr.cell? ⟨fb, fo + i * 7, none⟩ = some (.int .i64 q0) := (hbc fb _ hfb).trans (hcf 0 (by omega))
      have cq1 : wr.cell? ⟨fb, fo + i * 7 + 1, none⟩ = some (.int .i64 q1) := (hbc fb _ hfb).trans (hcf 1 (by omega))
      have cq2 : wr.cell? ⟨fb, fo + i * 7 + 2, none⟩ = some (.int .i64 q2) := (hbc fb _ hfb).trans (hcf 2 (by omega))
      have cq3 : wr.cell? ⟨fb, fo + i * 7 + 3, none⟩ = some (.slice da dn dc) := (hbc fb _ hfb).trans (hcf 3 (by omega))
      have cq4 : wr.cell? ⟨fb, fo + i * 7 + 4, none⟩ = some (.bool q4) := (hbc fb _ hfb).trans (hcf 4 (by omega))
      have cq5 : wr.cell? ⟨fb, fo + i * 7 + 5, none⟩ = some (.bool q5) := (hbc fb _ hfb).trans (hcf 5 (by omega))
      have cq6 : wr.cell? ⟨fb, fo + i * 7 + 6, none⟩ = some (.bool q6) := (hbc fb _ hfb).trans (hcf 6 (by omega))
      have cg0 : wr.cell? ⟨gb, go + i * 7, none⟩ = some (.int .i64 q0) := (hbc gb _ hgb).trans (hcg 0 (by omega))
      have cg1 : wr.cell? ⟨gb, go + i * 7 + 1, none⟩ = some (.int .i64 q1) := (hbc gb _ hgb).trans (hcg 1 (by omega))
      have cg4 : wr.cell? ⟨gb, go + i * 7 + 4, none⟩ = some (.bool q4) := (hbc gb _ hgb).trans (hcg 4 (by omega))
      have hdn : dn ≤ 65536 := by rw [edn]; exact ho3
      have HR : Hid _ := And.intro hK (And.intro hL (And.intro est (And.intro enx (And.intro I (And.intro hcp (And.intro hrp (And.intro hrf (And.intro edn (And.intro eon (And.intro etn (And.intro hgo hq)))))))))))
      have hgbr : gb < wr.heap.size := by omega
      have n0 : (q0 != q0) = false := by simp
      have n1 : (q1 != q1) = false := by simp
      have n4 : (q4 != q4) = false := by simp
      clear hK hL est enx I hcp hrp hrf edn eon etn hgo hq hcf hcg eo eob euf eug eup eu eu2 hbc ho3
      go_upto_region 18 with fail
      go_quiet (fail)
      go_upto_if 85 with fail
      go_cut [14] from 48 to 238 (fun v14 wx => v14 = .pointer (some ⟨wr.heap.size, 0, none⟩) ∧ LR w5 wx (.slice ta tn tc) T lb lost wr.heap.size q0 q1 q2 (.slice da dn dc) q4 q5 q6)
      case first =>
        go_wp2_with fail
        go_meet
        exact ⟨rfl, (LR.new HR.out.2.1 q0 q1 q2 (.slice da dn dc) q4 q5 q6).drewN _⟩
      case rest =>
      obtain ⟨rfl, R1⟩ := hcut
      obtain ⟨bx, ebx⟩ : ∃ b, b = wr.heap.size := ⟨_, rfl⟩
      rw [← ebx] at R1 ⊢
      have hbp : ∀ k, wc.cell? ⟨pb, k, none⟩ = w5.cell? ⟨pb, k, none⟩ := fun k => R1.bo.bw.cell (p := ⟨pb, k, none⟩) hpb
      obtain ⟨k0, k1, k2, k3, k4⟩ := o
      have hcp := HR.out.2.2.2.2.2.1
      dsimp only [SSendOp.c] at hcp
      have cp0 : wc.cell? ⟨pb, po + i * 5, none⟩ = some (.int .i64 k0) := (hbp _).trans (hcp 0 (by omega))
      have cp2 : wc.cell? ⟨pb, po + i * 5 + 2, none⟩ = some (.int .i64 k2) := (hbp _).trans (hcp 2 (by omega))
      have cp3 : wc.cell? ⟨pb, po + i * 5 + 3, none⟩ = some (.slice oa on oc) := (hbp _).trans (hcp 3 (by omega))
      have cp1 : wc.cell? ⟨pb, po + i * 5 + 1, none⟩ = some (.int .i64 k1) := (hbp _).trans (hcp 1 (by omega))
      have y0 : wc.cell? ⟨bx, 0, none⟩ = some (.int .i64 q0) := (bk_cell R1.bk 0).trans rfl
      have y2 : wc.cell? ⟨bx, 2, none⟩ = some (.int .i64 q2) := (bk_cell R1.bk 2).trans rfl
      have y3 : wc.cell? ⟨bx, 3, none⟩ = some (.slice da dn dc) := (bk_cell R1.bk 3).trans rfl
      have y4 : wc.cell? ⟨bx, 4, none⟩ = some (.bool q4) := (bk_cell R1.bk 4).trans rfl
      have y5 : wc.cell? ⟨bx, 5, none⟩ = some (.bool q5) := (bk_cell R1.bk 5).trans rfl
      have hszc : w5.heap.size ≤ wc.heap.size := R1.bo.bw.size
      have H1c : Hid _ := And.intro R1 (And.intro hbp True.intro)
      clear R1 hbp hcp cq0 cq1 cq2 cq3 cq4 cq5 cq6 cg0 cg1 cg4 n0 n1 n4 ebx hgbr
      by_cases hq0 : q0 = 0
      case neg =>
        as_aux_lemma =>
        have hq0' : (q0 != 0) = true := by simpa using hq0
        go_wp2_with fail
        go_roundg (N - (i + 1))
        case measure => (have := HR.out.2.2.2.2.2.2.2.2.2.2.2.2; omega)
        case rel => exact ⟨i + 1, T, lost, next, credit, ended, by omega, rfl, by go_num, rfl, rfl, rfl, by rw [HR.out.2.2.2.1, sstep_bad _ (by rw [HR.out.2.2.1]; exact hq0)]; exact HR.out.1, H1c.out.1.bo⟩
      subst hq0
      by_cases e1 : k0 = 1
      · as_aux_lemma =>
        subst e1
        obtain ⟨kb, kb2⟩ := kb_write HR.out.1 HR.out.2.2.2.2.1 ⟨1, k1, k2, k3, k4⟩ rfl (by rw [HR.out.2.2.1])
        have hrw : Row wc .u8 (.slice oa on oc) k3 := Row.below (show Row w5 .u8 (.slice oa on oc) k3 from HR.out.2.2.2.2.2.2.1) H1c.out.1.bo.bw
        have htx := H1c.out.1.bo.tx
        rw [← HR.out.2.2.2.2.2.2.2.2.2.2.1] at htx
        have HW : Hid _ := And.intro kb (And.intro kb2 (And.intro hrw htx))
        clear kb kb2 hrw htx y2 y3 y4 y5 cp1 cp2
        go_wp2_with (at_builtin; refine wpList_append_row rfl (.tmp 96) (.tmp 101) rfl w5.heap.size (.slice ta tn tc) tn T rfl HW.out.2.2.2 (.slice oa on oc) k3 rfl HW.out.2.2.1 (by have h1 := HW.out.2.1; have h2 := HR.out.2.2.2.2.2.2.2.2.2.2.1; dsimp only at h1; omega) hszc ?_; intro v8 w8 o8 g8; obtain ⟨a8, c8, ev8⟩ := own_form o8; have H8 : Hid _ := And.intro o8 g8; clear o8 g8; subst ev8)
        go_roundg (N - (i + 1))
        case measure => (have := HR.out.2.2.2.2.2.2.2.2.2.2.2.2; omega)
        case rel => exact ⟨i + 1, T ++ k3, lost, next, credit, ended, by omega, rfl, by go_num, rfl, rfl, rfl, by rw [HR.out.2.2.2.1]; exact HW.out.1, H1c.out.1.bo.write (by rw [← HR.out.2.2.2.2.2.2.2.2.2.2.1]; exact H8.out.1) H8.out.2⟩
      by_cases e2 : k0 = 2
      · as_aux_lemma =>
        subst e2
        have kb := kb_finish HR.out.1 ⟨2, k1, k2, k3, k4⟩ rfl (by rw [HR.out.2.2.1])
        have HW : Hid _ := And.intro kb True.intro
        clear kb y2 y3 y4 y5 cp1 cp2 cp3
        go_wp2_with fail
        go_roundg (N - (i + 1))
        case measure => (have := HR.out.2.2.2.2.2.2.2.2.2.2.2.2; omega)
        case rel => exact ⟨i + 1, T, lost, next, credit, true, by omega, rfl, by go_num, rfl, rfl, rfl, by rw [HR.out.2.2.2.1]; exact HW.out.1, H1c.out.1.bo⟩
      by_cases e3 : k0 = 3
      · as_aux_lemma =>
        subst e3
        have kb := kb_credit HR.out.1 ⟨3, k1, k2, k3, k4⟩ rfl (by rw [HR.out.2.2.1])
        have HW : Hid _ := And.intro kb True.intro
        clear kb y2 y3 y4 y5 cp1 cp3
        go_wp2_with fail
        go_roundg (N - (i + 1))
        case measure => (have := HR.out.2.2.2.2.2.2.2.2.2.2.2.2; omega)
        case rel => exact ⟨i + 1, T, lost, next, max credit k2, ended, by omega, rfl, by go_num, rfl, rfl, rfl, by rw [HR.out.2.2.2.1]; exact HW.out.1, H1c.out.1.bo⟩
      by_cases e5 : k0 = 5
      · as_aux_lemma =>
        subst e5
        obtain ⟨g1, g2, g3, g4, kb⟩ := kb_acked HR.out.1 HR.out.2.2.2.2.1 ⟨5, k1, k2, k3, k4⟩ rfl (by rw [HR.out.2.2.1])
        dsimp only at g1 g2 g3 kb
        obtain ⟨f, rfl⟩ := Int.eq_ofNat_of_zero_le g1
        obtain ⟨K, rfl⟩ := Int.eq_ofNat_of_zero_le g2
        rw [Int.toNat_natCast, show ((f : Int) + (K : Int)).toNat = f + K by omega] at kb
        have hfk : f + K < n7 := by rw [H7.out]; omega
        have hfk2 : f + K ≤ 65536 := by omega
        have HB : Hid _ := And.intro kb True.intro
        clear kb g1 g2 g3 g4 y2 y3 y4 y5 cp3 cp0 cp1 cp2
        have cp1 : wc.cell? ⟨pb, po + i * 5 + 1, none⟩ = some (.int .i64 (f : Int)) := (H1c.out.2.1 _).trans (HR.out.2.2.2.2.2.1 1 (by omega))
        have cp0 : wc.cell? ⟨pb, po + i * 5, none⟩ = some (.int .i64 5) := (H1c.out.2.1 _).trans (HR.out.2.2.2.2.2.1 0 (by omega))
        go_wp2_with fail
        go_loopg [15] K (fun q kv wx => ∃ p : Nat, f ≤ p ∧ p ≤ f + K ∧ q = f + K - p ∧ kv = .int .i64 (p : Int) ∧ LR w5 wx (.slice ta tn tc) T lb (setL lost f p false) bx 0 q1 q2 (.slice da dn dc) q4 q5 q6)
        case atStart => exact ⟨f, Nat.le_refl _, by omega, by omega, rfl, by rw [setL_self]; exact H1c.out.1⟩
        case round =>
          obtain ⟨p, hp1, hp2, hq2, rfl, R2⟩ := hrel
          have d0 : wr.cell? ⟨pb, po + i * 5, none⟩ = some (.int .i64 5) := (R2.bo.bw.cell (p := ⟨pb, po + i * 5, none⟩) hpb).trans (HR.out.2.2.2.2.2.1 0 (by omega))
          have d1 : wr.cell? ⟨pb, po + i * 5 + 1, none⟩ = some (.int .i64 (f : Int)) := (R2.bo.bw.cell (p := ⟨pb, po + i * 5 + 1, none⟩) hpb).trans (HR.out.2.2.2.2.2.1 1 (by omega))
          have d2 : wr.cell? ⟨pb, po + i * 5 + 2, none⟩ = some (.int .i64 (K : Int)) := (R2.bo.bw.cell (p := ⟨pb, po + i * 5 + 2, none⟩) hpb).trans (HR.out.2.2.2.2.2.1 2 (by omega))
          have dl := R2.bo.lo.cell p (by have := H7.out; omega)
          have df := R2.bo.lo.free p
          have H2c : Hid _ := And.intro R2 hq2
          clear R2 hq2 cp0 cp1
          have hp7 : p < n7 := by omega
          by_cases hp : p < f + K
          · have hpc : (p : Int) < (f : Int) + (K : Int) := by omega
            go_upto_region 31 with fail
            go_quiet (fail)
            go_wp2_with fail
            go_roundg (f + K - (p + 1))
            case measure => (have := H2c.out.2; omega)
            case rel => exact ⟨p + 1, by omega, by omega, rfl, by go_num, by rw [setL_next _ _ _ _ hp1]; exact (H2c.out.1.drewN _).set p false⟩
          · have hpc : ¬ (p : Int) < (f : Int) + (K : Int) := by omega
            obtain rfl : p = f + K := by omega
            go_upto_region 31 with fail
            go_quiet (fail)
            go_wp2_with fail
            go_roundg (N - (i + 1))
            case measure => (have := HR.out.2.2.2.2.2.2.2.2.2.2.2.2; omega)
            case rel => exact ⟨i + 1, T, setL lost f (f + K) false, next, credit, ended, by omega, rfl, by go_num, rfl, rfl, rfl, by rw [HR.out.2.2.2.1]; exact HB.out.1, (H2c.out.1.drewN _).bo⟩
      by_cases e6 : k0 = 6
      · as_aux_lemma =>
        subst e6
        obtain ⟨g1, g2, g3, g4, kb⟩ := kb_lost HR.out.1 HR.out.2.2.2.2.1 ⟨6, k1, k2, k3, k4⟩ rfl (by rw [HR.out.2.2.1])
        dsimp only at g1 g2 g3 kb
        obtain ⟨f, rfl⟩ := Int.eq_ofNat_of_zero_le g1
        obtain ⟨K, rfl⟩ := Int.eq_ofNat_of_zero_le g2
        rw [Int.toNat_natCast, show ((f : Int) + (K : Int)).toNat = f + K by omega] at kb
        have hfk : f + K < n7 := by rw [H7.out]; omega
        have hfk2 : f + K ≤ 65536 := by omega
        have HB : Hid _ := And.intro kb True.intro
        clear kb g1 g2 g3 g4 y2 y3 y4 y5 cp3 cp0 cp1 cp2
        have cp1 : wc.cell? ⟨pb, po + i * 5 + 1, none⟩ = some (.int .i64 (f : Int)) := (H1c.out.2.1 _).trans (HR.out.2.2.2.2.2.1 1 (by omega))
        have cp0 : wc.cell? ⟨pb, po + i * 5, none⟩ = some (.int .i64 6) := (H1c.out.2.1 _).trans (HR.out.2.2.2.2.2.1 0 (by omega))
        go_wp2_with fail
        go_loopg [15] K (fun q kv wx => ∃ p : Nat, f ≤ p ∧ p ≤ f + K ∧ q = f + K - p ∧ kv = .int .i64 (p : Int) ∧ LR w5 wx (.slice ta tn tc) T lb (setL lost f p true) bx 0 q1 q2 (.slice da dn dc) q4 q5 q6)
        case atStart => exact ⟨f, Nat.le_refl _, by omega, by omega, rfl, by rw [setL_self]; exact H1c.out.1⟩
        case round =>
          obtain ⟨p, hp1, hp2, hq2, rfl, R2⟩ := hrel
          have d0 : wr.cell? ⟨pb, po + i * 5, none⟩ = some (.int .i64 6) := (R2.bo.bw.cell (p := ⟨pb, po + i * 5, none⟩) hpb).trans (HR.out.2.2.2.2.2.1 0 (by omega))
          have d1 : wr.cell? ⟨pb, po + i * 5 + 1, none⟩ = some (.int .i64 (f : Int)) := (R2.bo.bw.cell (p := ⟨pb, po + i * 5 + 1, none⟩) hpb).trans (HR.out.2.2.2.2.2.1 1 (by omega))
          have d2 : wr.cell? ⟨pb, po + i * 5 + 2, none⟩ = some (.int .i64 (K : Int)) := (R2.bo.bw.cell (p := ⟨pb, po + i * 5 + 2, none⟩) hpb).trans (HR.out.2.2.2.2.2.1 2 (by omega))
          have dl := R2.bo.lo.cell p (by have := H7.out; omega)
          have df := R2.bo.lo.free p
          have H2c : Hid _ := And.intro R2 hq2
          clear R2 hq2 cp0 cp1
          have hp7 : p < n7 := by omega
          by_cases hp : p < f + K
          · have hpc : (p : Int) < (f : Int) + (K : Int) := by omega
            go_upto_region 31 with fail
            go_quiet (fail)
            go_wp2_with fail
            go_roundg (f + K - (p + 1))
            case measure => (have := H2c.out.2; omega)
            case rel => exact ⟨p + 1, by omega, by omega, rfl, by go_num, by rw [setL_next _ _ _ _ hp1]; exact (H2c.out.1.drewN _).set p true⟩
          · have hpc : ¬ (p : Int) < (f : Int) + (K : Int) := by omega
            obtain rfl : p = f + K := by omega
            go_upto_region 31 with fail
            go_quiet (fail)
            go_wp2_with fail
            go_roundg (N - (i + 1))
            case measure => (have := HR.out.2.2.2.2.2.2.2.2.2.2.2.2; omega)
            case rel => exact ⟨i + 1, T, setL lost f (f + K) true, next, credit, ended, by omega, rfl, by go_num, rfl, rfl, rfl, by rw [HR.out.2.2.2.1]; exact HB.out.1, (H2c.out.1.drewN _).bo⟩
      by_cases e4 : k0 = 4
      case neg =>
        as_aux_lemma =>
        have kb := kb_other HR.out.1 ⟨k0, k1, k2, k3, k4⟩ (by show k0 < 1 ∨ 6 < k0; omega)
        have HW : Hid _ := And.intro kb True.intro
        have f1 : (k0 == 1) = false := by simpa using e1
        have f2 : (k0 == 2) = false := by simpa using e2
        have f3 : (k0 == 3) = false := by simpa using e3
        have f4 : (k0 == 4) = false := by simpa using e4
        have f5 : (k0 == 5) = false := by simpa using e5
        have f6 : (k0 == 6) = false := by simpa using e6
        clear kb y2 y3 y4 y5 cp1 cp2 cp3
        go_wp2_with fail
        go_roundg (N - (i + 1))
        case measure => (have := HR.out.2.2.2.2.2.2.2.2.2.2.2.2; omega)
        case rel => exact ⟨i + 1, T, lost, next, credit, ended, by omega, rfl, by go_num, rfl, rfl, rfl, by rw [HR.out.2.2.2.1]; exact HW.out.1, H1c.out.1.bo⟩
      subst e4
      have kb := kb_pull HR.out.1 HR.out.2.2.2.2.1 ⟨4, k1, k2, k3, k4⟩ rfl (by rw [HR.out.2.2.1])
      rw [HR.out.2.2.1, ← HR.out.2.2.2.1] at kb
      dsimp only at kb
      rcases kb with ⟨f4, f3, kb⟩ | ⟨a, b, f4, f2, f3, hab, hbT, hbc, hbn, han, hfin, hlo, kb⟩
      · as_aux_lemma =>
        subst f4
        have hdn0 : dn = 0 := by have := HR.out.2.2.2.2.2.2.2.2.1; rw [this, f3]; rfl
        have HW : Hid _ := And.intro kb True.intro
        clear kb f3 cp1 cp2 cp3 y5
        subst hdn0
        go_wp2_with fail
        go_roundg (N - (i + 1))
        case measure => (have := HR.out.2.2.2.2.2.2.2.2.2.2.2.2; omega)
        case rel => exact ⟨i + 1, T, lost, next, credit, ended, by omega, rfl, by go_num, rfl, rfl, rfl, HW.out.1, H1c.out.1.bo⟩
      · as_aux_lemma =>
        subst f4 f2
        have hT := HR.out.2.2.2.2.1.big
        rw [← HR.out.1.tx] at hT
        have hTn := HR.out.2.2.2.2.2.2.2.2.2.2.1
        have hdb : b = a + dn := by
          have := HR.out.2.2.2.2.2.2.2.2.1
          rw [f3, List.length_take, List.length_drop] at this
          omega
        subst hdb
        rw [Nat.add_sub_cancel_left] at f3 hbn
        have z1 : decide ((a : Int) < 0) = false := by rw [decide_eq_false_iff_not]; omega
        have z2 : decide ((tn : Int) < (a : Int) + (dn : Int)) = false := by rw [decide_eq_false_iff_not]; omega
        have z3 : decide (max credit (next : Int) < (a : Int) + (dn : Int)) = false := by rw [decide_eq_false_iff_not]; omega
        have z5 : decide (k2 < (dn : Int)) = false := by rw [decide_eq_false_iff_not]; omega
        have z7 : decide ((next : Int) < (a : Int)) = false := by rw [decide_eq_false_iff_not]; omega
        have hadn : a + dn ≤ tn := by omega
        have htn : tn ≤ 65536 := by omega
        have hnx : next ≤ 65536 := by have h1 := HR.out.1.nx; have h2 := HR.out.2.2.2.2.1.nx; have h3 := HR.out.2.2.2.2.1.big; omega
        have hrd : Row wc .u8 (.slice da dn dc) ((T.drop a).take dn) := by rw [← f3]; exact Row.below (Row.below (show Row w4 .u8 (.slice da dn dc) q3 from HR.out.2.2.2.2.2.2.2.1) H5.out.1) H1c.out.1.bo.bw
        have hrt : Row wc .u8 (.slice ta tn tc) T := row_of_owns H1c.out.1.bo.tx
        have HW : Hid _ := And.intro kb (And.intro hfin (And.intro hlo (And.intro hrd hrt)))
        clear kb hfin hlo hrd hrt f3 hbT hbc hbn hT cp1 cp3 hTn
        obtain ⟨M, eM⟩ : ∃ M, M = min (a + dn) next := ⟨_, rfl⟩
        obtain ⟨X, eX⟩ : ∃ X, X = max next (a + dn) := ⟨_, rfl⟩
        have hM : min ((a : Int) + (dn : Int)) (next : Int) = (M : Int) := by omega
        have hX : max (next : Int) ((a : Int) + (dn : Int)) = (X : Int) := by omega
        have hMb : a ≤ M ∧ M ≤ 65536 := by omega
        have HM : Hid _ := And.intro hMb (And.intro eM eX)
        clear eM eX hMb
        go_upto_region 39 with fail
        have htx := H1c.out.1.bo.tx
        rcases htx.2 with ⟨et, en⟩ | ⟨tb, tcap, tcur, et, -, -, htc, -, -⟩
        · obtain ⟨rfl, rfl, rfl⟩ : ta = none ∧ tn = 0 ∧ tc = 0 := by simpa using et
          obtain ⟨rfl, rfl⟩ : a = 0 ∧ dn = 0 := by omega
          have y3' := decide_eq_false_iff_not.1 z3
          have y5' := decide_eq_false_iff_not.1 z5
          have w3 : decide (max credit (next : Int) < 0) = false := by rw [decide_eq_false_iff_not]; omega
          have w5' : decide (k2 < 0) = false := by rw [decide_eq_false_iff_not]; omega
          have w7 : decide ((next : Int) < 0) = false := by rw [decide_eq_false_iff_not]; omega
          clear z1 z2 z3 z5 z7 y3' y5'
          have CQ : ∀ n : Nat, Calls Tryd.prog 7 #[.slice da 0 dc, .slice none 0 0] (wc.drewN n) fun e w' => e = .returned (.bool true) ∧ w' = wc.drewN n := fun n =>
            sameP _ _ ((T.drop 0).take 0) _ (rowDrewN HW.out.2.2.2.1 n) (row_cut0 _ _ _ _)
          have HQ : Hid _ := And.intro CQ True.intro
          clear et htx CQ en
          cases q5 with
          | false =>
            as_aux_lemma =>
            go_quiet (first | (go_at_call 7; exact Calls.quiet_of_same (HQ.out.1 _)))
            go_wp2_with fail
            go_loopg [17] M (fun q kv wx => ∃ p : Nat, 0 ≤ p ∧ p ≤ M ∧ q = M - p ∧ kv = .int .i64 (p : Int) ∧ LR w5 wx (.slice none 0 0) T lb (setL lost 0 p false) bx 0 q1 0 (.slice da 0 dc) true false q6)
            case atStart => exact ⟨0, Nat.le_refl _, by have := HM.out.1; omega, by have := HM.out.1; omega, rfl, by rw [setL_self]; exact H1c.out.1.drewN _⟩
            case round =>
              obtain ⟨p, hp1, hp2, hq2, rfl, R2⟩ := hrel
              have dl := R2.bo.lo.cell p (by have := H7.out; have := HM.out.1; omega)
              have df := R2.bo.lo.free p
              have hs2 : w5.heap.size ≤ wr.heap.size := R2.bo.bw.size
              have H2c : Hid _ := And.intro R2 hq2
              clear R2 hq2
              have hp7 : p < n7 := by have := H7.out; have := HM.out.1; omega
              by_cases hp : p < M
              · exact absurd hp (by rw [HM.out.2.1]; omega)
              · have hpc : ¬ (p : Int) < (M : Int) := by omega
                obtain rfl : p = M := by omega
                go_wp2_with fail
                go_roundg (N - (i + 1))
                case measure => (have := HR.out.2.2.2.2.2.2.2.2.2.2.2.2; omega)
                case rel => exact ⟨i + 1, T, setL lost 0 p false, X, credit, ended, by omega, rfl, by go_num, by rw [HM.out.2.2]; simp, rfl, rfl, by have := HW.out.1; rw [← HM.out.2.1, ← HM.out.2.2] at this; exact this, H2c.out.1.bo⟩
          | true =>
            as_aux_lemma =>
            obtain ⟨he, hf⟩ := HW.out.2.1 rfl
            subst he
            have z6 : ((0 : Int) + (0 : Int) != (0 : Int)) = false := rfl
            clear hf
            go_quiet (first | (go_at_call 7; exact Calls.quiet_of_same (HQ.out.1 _)))
            go_wp2_with fail
            go_loopg [17] M (fun q kv wx => ∃ p : Nat, 0 ≤ p ∧ p ≤ M ∧ q = M - p ∧ kv = .int .i64 (p : Int) ∧ LR w5 wx (.slice none 0 0) T lb (setL lost 0 p false) bx 0 q1 0 (.slice da 0 dc) true true q6)
            case atStart => exact ⟨0, Nat.le_refl _, by have := HM.out.1; omega, by have := HM.out.1; omega, rfl, by rw [setL_self]; exact H1c.out.1.drewN _⟩
            case round =>
              obtain ⟨p, hp1, hp2, hq2, rfl, R2⟩ := hrel
              have dl := R2.bo.lo.cell p (by have := H7.out; have := HM.out.1; omega)
              have df := R2.bo.lo.free p
              have hs2 : w5.heap.size ≤ wr.heap.size := R2.bo.bw.size
              have H2c : Hid _ := And.intro R2 hq2
              clear R2 hq2
              have hp7 : p < n7 := by have := H7.out; have := HM.out.1; omega
              by_cases hp : p < M
              · exact absurd hp (by rw [HM.out.2.1]; omega)
              · have hpc : ¬ (p : Int) < (M : Int) := by omega
                obtain rfl : p = M := by omega
                go_wp2_with fail
                go_roundg (N - (i + 1))
                case measure => (have := HR.out.2.2.2.2.2.2.2.2.2.2.2.2; omega)
                case rel => exact ⟨i + 1, T, setL lost 0 p false, X, credit, true, by omega, rfl, by go_num, by rw [HM.out.2.2]; simp, rfl, rfl, by have := HW.out.1; rw [← HM.out.2.1, ← HM.out.2.2] at this; exact this, H2c.out.1.bo⟩
        · obtain ⟨rfl, -, rfl⟩ : ta = some ⟨tb, 0, none⟩ ∧ tn = T.length ∧ tc = tcap := by simpa using et
          have hTn := HR.out.2.2.2.2.2.2.2.2.2.2.1
          have zc1 : (0 : Int) ≤ (a : Int) + (dn : Int) := by omega
          have zc2 : (a : Int) + (dn : Int) ≤ (tc : Int) := by omega
          obtain ⟨sx, esx⟩ : ∃ sx : Option Addr, sx = (if tc = a then some ⟨tb, 0, none⟩ else some ⟨tb, a, none⟩) := ⟨_, rfl⟩
          have hif : (if tc = a then some ⟨tb, 0, none⟩ else some ⟨tb, a, none⟩) = sx := esx.symm
          have CQ : ∀ n : Nat, Calls Tryd.prog 7 #[.slice da dn dc, .slice sx dn (tc - a)] (wc.drewN n) fun e w' => e = .returned (.bool true) ∧ w' = wc.drewN n := fun n =>
            sameP _ _ ((T.drop a).take dn) _ (rowDrewN HW.out.2.2.2.1 n) (rowDrewN (by rw [esx]; exact row_cutZ HW.out.2.2.2.2 hTn.symm (by omega) a dn (by omega)) n)
          have HQ : Hid _ := And.intro CQ True.intro
          clear et htx CQ hTn htc esx
          cases q5 with
          | false =>
            as_aux_lemma =>
            go_quiet (first | (go_at_call 7; exact Calls.quiet_of_same (HQ.out.1 _)))
            go_wp2_with fail
            go_loopg [17] (M - a) (fun q kv wx => ∃ p : Nat, a ≤ p ∧ p ≤ M ∧ q = M - p ∧ kv = .int .i64 (p : Int) ∧ LR w5 wx (.slice (some ⟨tb, 0, none⟩) tn tc) T lb (setL lost a p false) bx 0 q1 (a : Int) (.slice da dn dc) true false q6)
            case atStart => exact ⟨a, Nat.le_refl _, by have := HM.out.1; omega, by have := HM.out.1; omega, rfl, by rw [setL_self]; exact H1c.out.1.drewN _⟩
            case round =>
              obtain ⟨p, hp1, hp2, hq2, rfl, R2⟩ := hrel
              have dl := R2.bo.lo.cell p (by have := H7.out; have := HM.out.1; omega)
              have df := R2.bo.lo.free p
              have hs2 : w5.heap.size ≤ wr.heap.size := R2.bo.bw.size
              have H2c : Hid _ := And.intro R2 hq2
              clear R2 hq2
              have hp7 : p < n7 := by have := H7.out; have := HM.out.1; omega
              by_cases hp : p < M
              · have hpc : (p : Int) < (M : Int) := by omega
                have dl2 : setL lost a p false p = true := by
                  unfold setL
                  rw [if_neg (by omega)]
                  exact HW.out.2.2.1 p hp1 (by rw [← HM.out.2.1]; exact hp)
                rw [dl2] at dl
                clear dl2
                go_wp2_with fail
                go_roundg (M - (p + 1))
                case measure => (have := H2c.out.2; omega)
                case rel => exact ⟨p + 1, by omega, by omega, rfl, by go_num, by rw [setL_next _ _ _ _ hp1]; exact H2c.out.1.set p false⟩
              · have hpc : ¬ (p : Int) < (M : Int) := by omega
                obtain rfl : p = M := by omega
                go_wp2_with fail
                go_roundg (N - (i + 1))
                case measure => (have := HR.out.2.2.2.2.2.2.2.2.2.2.2.2; omega)
                case rel => exact ⟨i + 1, T, setL lost a p false, X, credit, ended, by omega, rfl, by go_num, rfl, rfl, rfl, by have := HW.out.1; rw [← HM.out.2.1, ← HM.out.2.2] at this; exact this, H2c.out.1.bo⟩
          | true =>
            as_aux_lemma =>
            obtain ⟨he, hf⟩ := HW.out.2.1 rfl
            subst he
            have z6 : ((a : Int) + (dn : Int) != (tn : Int)) = false := by
              have := HR.out.2.2.2.2.2.2.2.2.2.2.1
              simp only [bne_eq_false_iff_eq]
              omega
            clear hf
            go_quiet (first | (go_at_call 7; exact Calls.quiet_of_same (HQ.out.1 _)))
            go_wp2_with fail
            go_loopg [17] (M - a) (fun q kv wx => ∃ p : Nat, a ≤ p ∧ p ≤ M ∧ q = M - p ∧ kv = .int .i64 (p : Int) ∧ LR w5 wx (.slice (some ⟨tb, 0, none⟩) tn tc) T lb (setL lost a p false) bx 0 q1 (a : Int) (.slice da dn dc) true true q6)
            case atStart => exact ⟨a, Nat.le_refl _, by have := HM.out.1; omega, by have := HM.out.1; omega, rfl, by rw [setL_self]; exact H1c.out.1.drewN _⟩
            case round =>
              obtain ⟨p, hp1, hp2, hq2, rfl, R2⟩ := hrel
              have dl := R2.bo.lo.cell p (by have := H7.out; have := HM.out.1; omega)
              have df := R2.bo.lo.free p
              have hs2 : w5.heap.size ≤ wr.heap.size := R2.bo.bw.size
              have H2c : Hid _ := And.intro R2 hq2
              clear R2 hq2
              have hp7 : p < n7 := by have := H7.out; have := HM.out.1; omega
              by_cases hp : p < M
              · have hpc : (p : Int) < (M : Int) := by omega
                have dl2 : setL lost a p false p = true := by
                  unfold setL
                  rw [if_neg (by omega)]
                  exact HW.out.2.2.1 p hp1 (by rw [← HM.out.2.1]; exact hp)
                rw [dl2] at dl
                clear dl2
                go_wp2_with fail
                go_roundg (M - (p + 1))
                case measure => (have := H2c.out.2; omega)
                case rel => exact ⟨p + 1, by omega, by omega, rfl, by go_num, by rw [setL_next _ _ _ _ hp1]; exact H2c.out.1.set p false⟩
              · have hpc : ¬ (p : Int) < (M : Int) := by omega
                obtain rfl : p = M := by omega
                go_wp2_with fail
                go_roundg (N - (i + 1))
                case measure => (have := HR.out.2.2.2.2.2.2.2.2.2.2.2.2; omega)
                case rel => exact ⟨i + 1, T, setL lost a p false, X, credit, true, by omega, rfl, by go_num, rfl, rfl, rfl, by have := HW.out.1; rw [← HM.out.2.1, ← HM.out.2.2] at this; exact this, H2c.out.1.bo⟩
    · obtain rfl : i = N := by omega
      go_wp2_with fail
      go_ret
      exact ⟨rfl, H5.out.2.2.2.trans (hL.bw.mono H5.out.2.2.2.size)⟩
end Go.Proofs.YtpdclbfjngmppaaDoor
