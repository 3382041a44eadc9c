import Derived.Test.YthokfbgpoffafaaGreatDoorOjG
import Derived.Deep.RegionHeld3
import Derived.Deep.QuietTactic
import Derived.BigQuiet
import Derived.BigRegion
namespace Go.Proofs.YthokfbgpoffafaaGreatDoor
open Go.RowKit
set_option linter.unusedVariables false

set_option maxRecDepth 20000 in
set_option maxHeartbeats 4000000 in
theorem opS_open (a0 a1 a2 a3 ao : Option Addr) (p0 p1 p2 p3 n cap : Nat) (k : K4) (cl l : Int) (w : World) (xs : List Int) (f v : Int) (d s t vers : List Int) (na fin : Nat) (h : n ≤ 65536) (hk : KRow w (.agg #[.slice a0 k.a.length p0, .slice a1 k.b.length p1, .slice a2 k.c.length p2, .slice a3 k.d.length p3]) k) (ho : kok k) (hc : 0 ≤ cl ∧ cl ≤ 8) (hl0 : -1 ≤ l) (hl1 : l ≤ 4611686018427387903) (hlie : n = 0 ∨ ∃ b off, ao = some ⟨b, off, none⟩ ∧ Lies w b off n cap xs) (hlen : xs.length = n) (hB : Bytes xs) (hp : pk xs cl = .ok ⟨f, v, d, s, t, vers, na, fin⟩) (kby : k.bytes) (hna : 0 < na) (hf : na + 12 ≤ fin) (hfn : fin ≤ n) (h64 : 64 ≤ xs.getD 0 0) (hOK : OpK xs ⟨f, v, d, s, t, vers, na, fin⟩) :
    Calls Tryz.prog 5 #[.agg #[.slice a0 k.a.length p0, .slice a1 k.b.length p1, .slice a2 k.c.length p2, .slice a3 k.d.length p3], .slice ao n cap, .int .i64 cl, .int .i64 l] w fun e w' => OpPost (opT k xs ⟨f, v, d, s, t, vers, na, fin⟩ l) w e w' := by
  obtain ⟨kb0, kk0, k0⟩ := op_w0 (.cells #[.slice a0 k.a.length p0, .slice a1 k.b.length p1, .slice a2 k.c.length p2, .slice a3 k.d.length p3] 30) w
  have hsm := pk_small hp
  simp only at hsm
  have hff : (f = 4 ∧ xs.getD 0 0 < 128) ∨ ((f = 1 ∨ f = 2) ∧ 128 ≤ xs.getD 0 0) := by
    rcases hOK with ⟨h0, _⟩ | ⟨_, _, _, h1 | h1⟩
    · exact absurd h0 (by simp only; omega)
    · exact Or.inl ⟨h1.1, h1.2.2.1⟩
    · rcases h1 with ⟨h1, h2 | h2⟩
      · exact Or.inr ⟨Or.inr h2.1, by omega⟩
      · exact Or.inr ⟨Or.inl h2.1, by omega⟩
  have HK0 : Hid _ := And.intro hk (And.intro kby (And.intro ho (And.intro h64 (And.intro hOK hff))))
  clear kby h64 hOK hff
  have y0 : _ = some (Value.slice a0 k.a.length p0) := (bk_cell kk0 0).trans rfl
  have y1 : _ = some (Value.slice a1 k.b.length p1) := (bk_cell kk0 1).trans rfl
  have y2 : _ = some (Value.slice a2 k.c.length p2) := (bk_cell kk0 2).trans rfl
  have y3 : _ = some (Value.slice a3 k.d.length p3) := (bk_cell kk0 3).trans rfl
  have dn : decide ((65536 : Int) < (n : Int)) = false := decide_eq_false (by omega)
  have HK : Hid _ := hk.below kb0
  clear hk
  have g0 : decide (cl < 0) = false := decide_eq_false (by omega)
  have g1 : decide (8 < cl) = false := decide_eq_false (by omega)
  have g2 : decide (l < -1) = false := decide_eq_false (by omega)
  have g3 : decide (4611686018427387903 < l) = false := decide_eq_false (by omega)
  obtain ⟨m, em⟩ : ∃ m : Nat, cl = (m : Int) := ⟨cl.toNat, by omega⟩
  subst em
  have hm8 : m ≤ 8 := by omega
  have HX : Hid _ := And.intro hlie (And.intro hlen (And.intro hB (And.intro hp (And.intro hl0 hl1))))
  clear hlie hB hp hc hl0 hl1
  go_enter Tryz.func5, Tryz.ntmps5
  go_wp2_with fail
  go_at_call 18
  refine (kok_true _ k _ HK.out ho).mono ?_
  rintro e w1 ⟨rfl, b1⟩
  have kb1 := kb0.trans (b1.mono kb0.size)
  have kk1 := (b1.block w.heap.size (by have := (Array.getElem?_eq_some_iff.1 kk0).1; exact this)).trans kk0
  have k1 : hdB w1 (w.heap.size + 1) (.int .i64 0) (.int .i64 0) (.slice none 0 0) (.slice none 0 0) (.slice none 0 0) (.int .i64 0) (.int .i64 0) (.int .i64 0) := (b1.block (w.heap.size + 1) (by have := (Array.getElem?_eq_some_iff.1 k0).1; exact this)).trans k0
  clear b1 kb0 kk0 k0
  have lie1 : n = 0 ∨ ∃ b off, ao = some ⟨b, off, none⟩ ∧ Lies w1 b off n cap xs := HX.out.1.imp id (fun ⟨b, off, h1, h2⟩ => ⟨b, off, h1, h2.below kb1⟩)
  have Q1 : Hid _ := And.intro k1 (And.intro kk1 kb1)
  clear k1 kk1 kb1
  go_wp2_with fail
  go_at_call 19
  refine (peekS ao n cap m xs _ lie1 HX.out.2.1 HX.out.2.2.1 h hm8).mono ?_
  rintro e w2 ⟨b2, ⟨c', hc', _⟩ | ⟨K, vd, vs, vt, hc', rfl, q2⟩⟩
  · have h2 := HX.out.2.2.2.1.symm.trans hc'; cases h2
  obtain rfl : K = ⟨f, v, d, s, t, vers, na, fin⟩ := by have h2 := hc'.symm.trans HX.out.2.2.2.1; cases h2; rfl
  simp only at q2 ⊢
  obtain ⟨da, dp, ed⟩ := (row_of_owns q2.o0).form
  obtain ⟨sa, sp, es⟩ := (row_of_owns q2.o1).form
  obtain ⟨ta, tp, et⟩ := (row_of_owns q2.o2).form
  subst ed es et
  simp only at q2 ⊢
  obtain ⟨b, off, rfl, lie⟩ := HX.out.1.resolve_left (by omega)
  have kk2 := (b2.block (w.heap.size + 1) ((Array.getElem?_eq_some_iff.1 Q1.out.1).1)).trans Q1.out.1
  have kq2 := (b2.block w.heap.size ((Array.getElem?_eq_some_iff.1 Q1.out.2.1).1)).trans Q1.out.2.1
  have ba2 : Below w.heap.size w w2 := Q1.out.2.2.trans (b2.mono Q1.out.2.2.size)
  have BA : Below w2.heap.size w2 (w2.alloc (.cells #[.int .i64 f, .int .i64 v, .slice da d.length dp, .slice sa s.length sp, .slice ta t.length tp, .int .i64 0, .int .i64 0, .int .i64 0] 27)) := (Below.refl _ _).alloc (Nat.le_refl _) _
  have z12 : w1.heap.size ≤ w2.heap.size := b2.size
  have z01 : w.heap.size + 1 < w1.heap.size := (Array.getElem?_eq_some_iff.1 Q1.out.1).1
  have s3 : (w2.alloc (.cells #[.int .i64 f, .int .i64 v, .slice da d.length dp, .slice sa s.length sp, .slice ta t.length tp, .int .i64 0, .int .i64 0, .int .i64 0] 27)).heap.size = w2.heap.size + 1 := by simp
  have A3 : Hid (OsA w (w2.alloc (.cells #[.int .i64 f, .int .i64 v, .slice da d.length dp, .slice sa s.length sp, .slice ta t.length tp, .int .i64 0, .int .i64 0, .int .i64 0] 27)) (w2.alloc (.cells #[.int .i64 f, .int .i64 v, .slice da d.length dp, .slice sa s.length sp, .slice ta t.length tp, .int .i64 0, .int .i64 0, .int .i64 0] 27)) w2.heap.size b off n cap k (.slice a0 k.a.length p0) (.slice a1 k.b.length p1) (.slice a2 k.c.length p2) (.slice a3 k.d.length p3) #[.int .i64 f, .int .i64 v, .slice da d.length dp, .slice sa s.length sp, .slice ta t.length tp, .int .i64 0, .int .i64 0, .int .i64 0] xs) := ⟨HK0.out.1, lie, ba2.alloc ba2.size _, (Below.heap_alloc _ _ _ ((Array.getElem?_eq_some_iff.1 kq2).1)).trans kq2, (Below.heap_alloc _ _ _ ((Array.getElem?_eq_some_iff.1 kk2).1)).trans kk2, heap_alloc_new w2 _, Chg.refl _ _, by omega⟩
  have HW : Hid _ := And.intro q2.o0 (And.intro q2.o1 (And.intro q2.o2 (And.intro q2.a01 (And.intro q2.a02 (And.intro q2.a12 (And.intro BA s3))))))
  have hcap : n ≤ cap ∧ cap ≤ 9223372036854775807 := ⟨lie.fits, lie.most⟩
  obtain ⟨hcap1, hcap2⟩ := hcap
  have CB := beginS b off n cap ⟨f, v, d, s, t, vers, na, fin⟩ xs da sa ta dp sp tp fin (w2.alloc (.cells #[.int .i64 f, .int .i64 v, .slice da d.length dp, .slice sa s.length sp, .slice ta t.length tp, .int .i64 0, .int .i64 0, .int .i64 0] 27)) (A3.out.lie.below' A3.out.old) HX.out.2.2.1 h (by simp only; omega) HK0.out.2.2.2.2.1 hsm.1 hsm.2.1 hsm.2.2
  simp only at CB
  have dff : (f == 3) = false ∧ (f == 5) = false := by rcases HK0.out.2.2.2.2.2 with ⟨h1, _⟩ | ⟨h1 | h1, _⟩ <;> subst h1 <;> exact ⟨rfl, rfl⟩
  obtain ⟨df3, df5⟩ := dff
  clear kk2 kq2 ba2 b2 q2 BA lie lie1 y0 y1 y2 y3 hc'
  go_wp2_with fail
  go_at_call 20
  refine CB.mono ?_
  rintro e w4 ⟨rfl, b4⟩
  clear CB
  generalize ew3 : (w2.alloc (.cells #[.int .i64 f, .int .i64 v, .slice da d.length dp, .slice sa s.length sp, .slice ta t.length tp, .int .i64 0, .int .i64 0, .int .i64 0] 27)) = W3 at A3 HW b4 ⊢
  have A4 : Hid _ := A3.out.step b4
  have zz3 : W3.heap.size ≤ w4.heap.size := A4.out.chg.size
  clear b4 A3
  go_upto_region 11 with fail
  go_cut [15] from 58 to 79 (fun cm wx => ∃ g c, cm = .slice (some ⟨g, 0, none⟩) 5 c ∧ wx.ownsRow w4.heap.size 5 1 cm 5 ((opMask k xs na).map (Value.int .u8)) ∧ Below w4.heap.size w4 wx)
  case first =>
    have D : Hid (Below w4.heap.size w4 w4.drew) := ⟨rfl, rfl, rfl, Nat.le_refl _, fun _ _ => rfl⟩
    have AD : Hid _ := A4.out.step D.out
    obtain ⟨e0, e1, e2, e3⟩ := AD.out.c4
    have R : Hid _ := And.intro ((AD.out.lie.below' AD.out.old).row (na + 4) 8 (by omega)) (show (sub xs (na + 4) 8).length = 8 from sub_len _ _ _ (by have := HX.out.2.1; omega))
    have q0 : na ≤ 65524 := by omega
    have t0 : IntKind.i64.wrap ((na : Int) + 4) = (na : Int) + 4 := by rw [IntKind.wrap_i64]; omega
    have t1 : IntKind.i64.wrap ((na : Int) + 12) = (na : Int) + 12 := by rw [IntKind.wrap_i64]; omega
    have t2 : 0 ≤ (na : Int) + 12 ∧ (na : Int) + 12 ≤ (cap : Int) := by omega
    have t3 : 0 ≤ (na : Int) + 4 ∧ (na : Int) + 4 ≤ max ((na : Int) + 12) 0 := by omega
    have t4 : ((na : Int) + 4).toNat = na + 4 := by omega
    have t5 : ((na : Int) + 12).toNat - (na + 4) = 8 := by omega
    have t6 : (cap = na + 4) = False := by simp; omega
    clear hf hfn hcap1 hna
    go_region_with (go_at_call 21; refine (head_ok _ _ _ k (sub xs (na + 4) 8) w4.drew AD.out.keyW HK0.out.2.1 HK0.out.2.2.1 R.out.1 R.out.2 (sub_bytes HX.out.2.2.1 _ _)).mono ?_; rintro e wy ⟨r, rfl, orr, br⟩)
    all_goals
      obtain ⟨g, c, er, _, _⟩ := owns_shape orr (by rw [headV_length]; decide)
      rw [headV_length] at er orr
      subst er
      go_wp2_with fail
      go_meet
      exact ⟨g, c, rfl, orr, D.out.trans (br.mono D.out.size)⟩
  case rest =>
    obtain ⟨g, c, rfl, om, bm⟩ := hcut
    have A5 : Hid _ := A4.out.step bm
    have hml : (opMask k xs na).length = 5 := opMask_length _ _ _
    obtain ⟨hgW, hgl2⟩ : w4.heap.size ≤ g ∧ g < wc.heap.size := by obtain ⟨g', c', e, h1, h2⟩ := owns_shape om (by decide); cases e; exact ⟨h1, h2⟩
    have M5 : Hid (∀ j, j < 5 → wc.cell? ⟨g, j, none⟩ = some (.int .u8 ((opMask k xs na).getD j 0))) := fun j hj => owns_cell om hml hj
    have CC := copyS (.slice (some ⟨b, off, none⟩) fin cap) (sub xs 0 fin) wc (by have := (A5.out.lie.below' A5.out.old).row 0 fin (by omega); rwa [Nat.add_zero, Nat.sub_zero] at this) (by rw [show (sub xs 0 fin).length = fin from sub_len _ _ _ (by have := HX.out.2.1; omega)]; omega)
    rw [show (sub xs 0 fin).length = fin from sub_len _ _ _ (by have := HX.out.2.1; omega)] at CC
    clear om bm A4 hml
    go_wp2_with fail
    go_at_call 22
    refine CC.mono ?_
    rintro e w6 ⟨r, rfl, o6, b6⟩
    obtain ⟨zc, ezc⟩ : ∃ z, z = wc.heap.size := ⟨_, rfl⟩
    rw [← ezc] at o6
    obtain ⟨hg, hc, e6, hg1, hg2⟩ := owns_shape o6 (by omega)
    subst e6
    have A6 : Hid _ := A5.out.step b6
    have M6 : Hid (∀ j, j < 5 → w6.cell? ⟨g, j, none⟩ = some (.int .u8 ((opMask k xs na).getD j 0))) := fun j hj => (b6.cell (p := ⟨g, j, none⟩) hgl2).trans (M5.out j hj)
    have O6 : Hid _ := And.intro o6 True.intro
    rw [← ezc] at hgl2
    clear o6 b6 CC A5 M5 ezc
    have HG : Hid _ := And.intro hgW (And.intro hgl2 (And.intro hg1 (And.intro hg2 zz3)))
    go_upto_region 13 with fail
    go_cut [] from 84 to 97 (fun wx => OsA w W3 wx w2.heap.size b off n cap k (.slice a0 k.a.length p0) (.slice a1 k.b.length p1) (.slice a2 k.c.length p2) (.slice a3 k.d.length p3) #[.int .i64 f, .int .i64 v, .slice da d.length dp, .slice sa s.length sp, .slice ta t.length tp, .int .i64 0, .int .i64 0, .int .i64 0] xs ∧ wx.ownsRow zc 5 1 (.slice (some ⟨hg, 0, none⟩) fin hc) fin ((pz k xs na fin 0).map (Value.int .u8)) ∧ ∀ j, j < 5 → wx.cell? ⟨g, j, none⟩ = some (.int .u8 ((opMask k xs na).getD j 0)))
    case first =>
      have hs0 : (sub xs 0 fin).length = fin := sub_len _ _ _ (by have := HX.out.2.1; omega)
      have x0 := owns_cell O6.out.1 hs0 (k := 0) (by omega)
      rw [show (sub xs 0 fin).getD 0 0 = xs.getD 0 0 by simp [sub, List.getD, show 0 < fin by omega]] at x0
      have f0 := O6.out.1.frozenAt 0
      have m0 := M6.out 0 (by decide)
      have eF : opF k xs na = bits .xor .u8 (xs.getD 0 0) (bits .and .u8 ((opMask k xs na).getD 0 0) (if 128 ≤ xs.getD 0 0 then 15 else 31)) := rfl
      have CB : Calls Tryz.prog 23 #[.int .u8 (xs.getD 0 0)] w6.drew _ := bitsS (xs.getD 0 0) w6.drew
      have st := fun x : Int => ((owns_drewN O6.out.1 1).stored 0 (.int .u8 x)).1
      have hf1 : 0 < fin := by omega
      generalize xs.getD 0 0 = X at x0 eF CB
      generalize (opMask k xs na).getD 0 0 = M0 at m0 eF
      generalize (if 128 ≤ X then (15 : Int) else 31) = I at eF CB
      have HS : Hid _ := And.intro st (And.intro eF CB)
      clear st eF CB hs0
      go_region_with (go_at_call 23; refine HS.out.2.2.mono ?_; rintro e wy ⟨rfl, rfl⟩)
      all_goals
        go_wp2_with fail
        go_meet
        obtain ⟨i1, i2, i3, i4, i5⟩ := HG.out
        have iog := A6.out.og
        have isz := HW.out.2.2.2.2.2.2.2
        refine ⟨(A6.out.step ((Below.refl _ w6).drew)).far (by omega) (by omega) 0 _, ?_, fun j hj => ?_⟩
        · have := HS.out.1 (opF k xs na)
          rw [← List.map_set] at this
          rw [← HS.out.2.1]
          exact this
        · exact (cell_of_heap (bk_other (w := w6) (by omega) 0 _) j).trans (M6.out j hj)
    case rest =>
      obtain ⟨A7', o7, m7⟩ := hcut
      have A7 : Hid _ := A7'
      have M7 : Hid _ := m7
      have O7 : Hid _ := And.intro o7 True.intro
      have hfx : fin ≤ xs.length := by have := HX.out.2.1; omega
      have hLb := opL_bd k xs na
      have x0 := owns_cell o7 (pz_length k xs na fin 0 hfx) (k := 0) (by omega)
      rw [pz_at k xs na fin 0 hfx (by omega) 0 (by omega), if_neg (by omega), if_pos rfl] at x0
      have hFb : 0 ≤ opF k xs na ∧ opF k xs na < 256 := fstV_bd _ _
      have hNL : 1 + opF k xs na % 4 = ((opL k xs na : Nat) : Int) := by unfold opL; omega
      have c6 : wc.cell? ⟨w2.heap.size, 6, none⟩ = some (.int .i64 0) := (bk_cell A7.out.hbk 6).trans rfl
      have f6 := bk_free A7.out.hbk 6
      have hTm : (opF k xs na).tmod 4 = opF k xs na % 4 := Int.tmod_eq_emod_of_nonneg hFb.1
      have HF : Hid _ := And.intro hFb (And.intro hNL True.intro)
      have hf1 : 0 < fin := by omega
      clear A7' o7 m7 A6 M6 O6
      obtain ⟨F, eF⟩ : ∃ q, opF k xs na = q := ⟨_, rfl⟩
      rw [eF] at x0 hTm HF hNL hFb
      have HFe : Hid _ := eF
      clear eF
      go_upto_region 15 with fail
      obtain ⟨i1, i2, i3, i4, i5⟩ := id HG.out
      have iog := A7.out.og
      have isz := HW.out.2.2.2.2.2.2.2
      have A8 : Hid _ := A7.out.set 6 (.int .i64 ((opL k xs na : Nat) : Int))
      have O8 : Hid _ := And.intro ((Only.setCell (w := wc) ⟨w2.heap.size, 6, none⟩ (.int .i64 ((opL k xs na : Nat) : Int))).owns O7.out.1 (fun k2 h2 => by simp [Value.ownBlock] at h2; subst h2; simp; omega)) True.intro
      have M8 : Hid (∀ j, j < 5 → (wc.setCell ⟨w2.heap.size, 6, none⟩ (.int .i64 ((opL k xs na : Nat) : Int))).cell? ⟨g, j, none⟩ = some (.int .u8 ((opMask k xs na).getD j 0))) := fun j hj => (cell_of_heap (bk_other (w := wc) (by omega) 6 _) j).trans (M7.out j hj)
      generalize wc.setCell ⟨w2.heap.size, 6, none⟩ (.int .i64 ((opL k xs na : Nat) : Int)) = W8 at A8 O8 M8 ⊢
      obtain ⟨nl, enl⟩ : ∃ q, opL k xs na = q := ⟨_, rfl⟩
      rw [enl] at A8 hLb hNL HF
      have HN : Hid _ := enl
      have hni : na + nl ≤ 65536 := by omega
      have hnf : na + nl < fin := by omega
      have HI : Hid _ := And.intro i1 (And.intro i2 (And.intro i3 (And.intro i4 (And.intro i5 (And.intro iog isz)))))
      clear A7 O7 M7 x0 c6 f6 hTm enl i1 i2 i3 i4 i5 iog isz hNL hFb
      go_wp2_with fail
      go_loopg [17] nl (fun q i wr => ∃ j : Nat, j ≤ nl ∧ q = nl - j ∧ i = .int .i64 (j : Int) ∧ OsA w W3 wr w2.heap.size b off n cap k (.slice a0 k.a.length p0) (.slice a1 k.b.length p1) (.slice a2 k.c.length p2) (.slice a3 k.d.length p3) #[.int .i64 f, .int .i64 v, .slice da d.length dp, .slice sa s.length sp, .slice ta t.length tp, .int .i64 0, .int .i64 (nl : Int), .int .i64 0] xs ∧ wr.ownsRow zc 5 1 (.slice (some ⟨hg, 0, none⟩) fin hc) fin ((pz k xs na fin j).map (Value.int .u8)) ∧ ∀ i, i < 5 → wr.cell? ⟨g, i, none⟩ = some (.int .u8 ((opMask k xs na).getD i 0)))
      case atStart => exact ⟨0, by omega, by omega, rfl, A8.out, O8.out.1, M8.out⟩
      case round =>
        obtain ⟨j, hj, hq, rfl, ar, ow, mr⟩ := hrel
        have AR : Hid _ := ar
        have OR : Hid _ := And.intro ow (And.intro mr True.intro)
        have c6 : wr.cell? ⟨w2.heap.size, 6, none⟩ = some (.int .i64 (nl : Int)) := (bk_cell AR.out.hbk 6).trans rfl
        by_cases hlt : j < nl
        · have c1 := owns_cell ow (pz_length k xs na fin j hfx) (k := na + j) (by omega)
          rw [pz_at k xs na fin j hfx (by omega) (na + j) (by omega), if_neg (by omega), if_neg (by omega)] at c1
          have f1 := ow.frozenAt (na + j)
          have c2 := mr (1 + j) (by omega)
          have e2 : pz k xs na fin (j + 1) = (pz k xs na fin j).set (na + j) (bits .xor .u8 (xs.getD (na + j) 0) ((opMask k xs na).getD (1 + j) 0)) := by
            have hp0 := p0_at xs fin (opF k xs na) hfx (na + j) (by omega)
            rw [if_neg (by omega)] at hp0
            rw [← hp0, Nat.add_comm 1 j]
            rfl
          have st := fun x : Int => (ow.stored (na + j) (.int .u8 x)).1
          generalize xs.getD (na + j) 0 = y at c1 e2
          generalize (opMask k xs na).getD (1 + j) 0 = z at c2 e2
          have H2 : Hid _ := And.intro st (And.intro e2 True.intro)
          clear ar ow mr st e2
          have u1 : IntKind.i64.wrap ((na : Int) + (j : Int)) = (na : Int) + (j : Int) := by rw [IntKind.wrap_i64]; omega
          have u2 : IntKind.i64.wrap (1 + (j : Int)) = 1 + (j : Int) := by rw [IntKind.wrap_i64]; omega
          have u3 : ((na : Int) + (j : Int)).toNat = na + j := by omega
          have u4 : (1 + (j : Int)).toNat = 1 + j := by omega
          have u5 : 0 ≤ (na : Int) + (j : Int) ∧ (na : Int) + (j : Int) < (fin : Int) := by omega
          have u6 : 0 ≤ 1 + (j : Int) ∧ 1 + (j : Int) < 5 := by omega
          have hjd : decide ((j : Int) < (nl : Int)) = true := decide_eq_true (by omega)
          go_wp2_with fail
          go_region
          all_goals
            go_wp2
            go_roundg (nl - (j + 1))
            case measure => omega
            case rel =>
              obtain ⟨i1, i2, i3, i4, i5, iog, isz⟩ := id HI.out
              refine ⟨j + 1, by omega, rfl, by go_num, (AR.out.step ((Below.refl _ wr).drew)).far (by omega) (by omega) (na + j) _, ?_, fun i hi => (cell_of_heap (bk_other (w := wr) (by omega) (na + j) _) i).trans (OR.out.2.1 i hi)⟩
              rw [H2.out.2.1, List.map_set]
              exact H2.out.1 _
        · obtain rfl : nl = j := by omega
          clear ar ow mr
          have hjd : decide ((nl : Int) < (nl : Int)) = false := decide_eq_false (by omega)
          have x0 := owns_cell OR.out.1 (pz_length k xs na fin nl hfx) (k := 0) (by omega)
          rw [pz_at k xs na fin nl hfx (by omega) 0 (by omega), if_neg (by omega), if_pos rfl, HFe.out] at x0
          obtain ⟨hFb, hNL, _⟩ := id HF.out
          have hXb := HX.out.2.2.1.at 0
          have hMb := (show Bytes (opMask k xs na) from fun x hx => digV_bytes _ _ x (List.mem_of_mem_take hx)).at 0
          have hF32 : F / 32 = xs.getD 0 0 / 32 := by rw [← HFe.out]; exact fstV_hi _ _ (by omega) (by omega) (by omega) (by omega)
          have cf0 : wr.cell? ⟨w2.heap.size, 0, none⟩ = some (.int .i64 f) := (bk_cell AR.out.hbk 0).trans rfl
          have cf7 : wr.cell? ⟨w2.heap.size, 7, none⟩ = some (.int .i64 0) := (bk_cell AR.out.hbk 7).trans rfl
          have ff7 := bk_free AR.out.hbk 7
          have hD1 : F.tdiv 4 = F / 4 := Int.tdiv_eq_ediv_of_nonneg hFb.1
          have hD2 : (F / 4).tmod 2 = F / 4 % 2 := Int.tmod_eq_emod_of_nonneg (by omega)
          obtain ⟨ph, eph⟩ : ∃ q, opPh k xs na = q := ⟨_, rfl⟩
          obtain ⟨ID, eID⟩ : ∃ q, opIdle k xs na = q := ⟨_, rfl⟩
          have HP : Hid _ := And.intro eph (And.intro eID True.intro)
          rcases HK0.out.2.2.2.2.2 with ⟨hf4, hX⟩ | ⟨hf4, hX⟩
          · have e1 : F / 4 % 2 = ph := by rw [← eph]; unfold opPh; rw [if_neg (by omega), HFe.out]
            have e2 : bits .and .u8 F 24 = ID := by rw [← eID]; unfold opIdle; rw [if_neg (by omega), HFe.out]
            subst hf4
            rw [e1] at hD2
            obtain ⟨hF0, hF1⟩ := hFb
            clear hXb hMb hF32 hNL hX eph eID e1
            go_upto_region 23 with fail
            obtain ⟨i1, i2, i3, i4, i5, iog, isz⟩ := id HI.out
            have A9 : Hid _ := AR.out.set 7 (.int .i64 ph)
            have O9 : Hid _ := And.intro ((Only.setCell (w := wr) ⟨w2.heap.size, 7, none⟩ (.int .i64 ph)).owns OR.out.1 (fun k2 h2 => by simp [Value.ownBlock] at h2; subst h2; simp; omega)) True.intro
            clear i1 i2 i3 i4 i5 iog isz x0 cf0 cf7 ff7 hD1 hD2 c6 e2 hjd hF0 hF1
            generalize wr.setCell ⟨w2.heap.size, 7, none⟩ (.int .i64 ph) = W9 at A9 O9 ⊢
            have VD := vals_small (opD k xs na) (by rw [opD_length, HN.out]; omega) (opD_bytes _ _ _)
            have CR : ∀ u : World, (∀ j, u.cell? ⟨hg, j, none⟩ = W9.cell? ⟨hg, j, none⟩) → Calls Tryz.prog 25 #[.slice (some ⟨hg, na, none⟩) nl (hc - na)] u fun e w' => e = .returned (.int .i64 (vals (opD k xs na))) ∧ w' = u := by
              intro u hu
              refine value_core nl (opD k xs na) hg na (hc - na) u (by omega) (by rw [opD_length, HN.out]) (opD_bytes _ _ _) (by omega) (fun j hj => ?_)
              rw [hu, owns_cell O9.out.1 (pz_length k xs na fin nl hfx) (show na + j < fin by omega)]
              have := pz_mid k xs na fin hna hfx (by rw [HN.out]; omega) j (by rw [HN.out]; exact hj)
              rw [HN.out] at this
              rw [this]
            have CE : ∀ u : World, Calls Tryz.prog 24 #[.int .i64 l, .int .i64 (vals (opD k xs na)), .int .i64 (nl : Int)] u fun e w' => e = .returned (.int .i64 (opNum k xs na l)) ∧ w' = u := by
              intro u
              have := specEx l (vals (opD k xs na)) nl u (by omega)
              unfold opNum
              rw [HN.out]
              exact this
            have hNb := opNum_bd k xs na l
            have HR : Hid _ := And.intro CR (And.intro CE True.intro)
            obtain ⟨num, enum⟩ : ∃ q, opNum k xs na l = q := ⟨_, rfl⟩
            rw [enum] at HR hNb
            have HNu : Hid _ := enum
            generalize vals (opD k xs na) = V at VD HR
            have hcc := hm_cap O9.out.1
            obtain ⟨hcc1, hcc2⟩ := hcc
            obtain ⟨VD1, VD2⟩ := VD
            have u1 : IntKind.i64.wrap ((na : Int) + (nl : Int)) = (na : Int) + (nl : Int) := by rw [IntKind.wrap_i64]; omega
            have u2 : 0 ≤ (na : Int) + (nl : Int) ∧ (na : Int) + (nl : Int) ≤ (hc : Int) := by omega
            have u3 : ((na : Int) + (nl : Int)).toNat = na + nl := by omega
            have u4 : (na : Int) ≤ max ((na : Int) + (nl : Int)) 0 := by omega
            have u5 : (hc = na) = False := by simp; omega
            have u6 : na + nl - na = nl := by omega
            have u7 : (hc = na + nl) = False := by simp; omega
            have u8 : (na : Int) + (nl : Int) ≤ (fin : Int) := by omega
            have u9 : 0 ≤ (na : Int) + (nl : Int) := by omega
            clear CR CE enum
            go_cut [] from 132 to 158 (fun wx => OsA w W3 wx w2.heap.size b off n cap k (.slice a0 k.a.length p0) (.slice a1 k.b.length p1) (.slice a2 k.c.length p2) (.slice a3 k.d.length p3) #[.int .i64 4, .int .i64 v, .slice da d.length dp, .slice sa s.length sp, .slice ta t.length tp, .int .i64 num, .int .i64 (nl : Int), .int .i64 ph] xs ∧ wx.ownsRow zc 5 1 (.slice (some ⟨hg, 0, none⟩) fin hc) fin ((pz k xs na fin nl).map (Value.int .u8)))
            case first =>
              have c6 : W9.cell? ⟨w2.heap.size, 6, none⟩ = some (.int .i64 (nl : Int)) := (bk_cell A9.out.hbk 6).trans rfl
              have c5 : W9.cell? ⟨w2.heap.size, 5, none⟩ = some (.int .i64 0) := (bk_cell A9.out.hbk 5).trans rfl
              have f5 := bk_free A9.out.hbk 5
              go_region_with (first
                | (go_at_call 25; refine (HR.out.1 W9.drew (fun j => rfl)).mono ?_; rintro e wy ⟨rfl, rfl⟩)
                | (go_at_call 24; refine (HR.out.2.1 _).mono ?_; rintro e wy ⟨rfl, rfl⟩))
              all_goals
                go_wp2_with fail
                go_meet
                obtain ⟨i1, i2, i3, i4, i5, iog, isz⟩ := id HI.out
                refine ⟨(A9.out.step ((Below.refl _ W9).drew)).set 5 (.int .i64 num), ?_⟩
                have o9 : W9.drew.ownsRow zc 5 1 (.slice (some ⟨hg, 0, none⟩) fin hc) fin ((pz k xs na fin nl).map (Value.int .u8)) := O9.out.1
                exact (Only.setCell (w := W9.drew) ⟨w2.heap.size, 5, none⟩ _).owns o9 (fun k2 h2 => by simp [Value.ownBlock] at h2; subst h2; simp; omega)
            case rest =>
              obtain ⟨A10', o10⟩ := hcut
              have A10 : Hid _ := A10'
              have O10 : Hid _ := And.intro o10 True.intro
              clear A10' o10 A9 O9 HR
              have c5 : wc.cell? ⟨w2.heap.size, 5, none⟩ = some (.int .i64 num) := (bk_cell A10.out.hbk 5).trans rfl
              have c6 : wc.cell? ⟨w2.heap.size, 6, none⟩ = some (.int .i64 (nl : Int)) := (bk_cell A10.out.hbk 6).trans rfl
              by_cases hneg : num = -1
              · have eT : opT k xs ⟨4, v, d, s, t, vers, na, fin⟩ l = (zH, [], 3) := by
                  unfold opT
                  rw [if_pos (by show opNum k xs na l < 0; rw [HNu.out]; omega)]
                have HT : Hid _ := eT
                subst hneg
                have ltE : w.heap.size + 1 < (wc).heap.size := (Array.getElem?_eq_some_iff.1 A10.out.rbk).1
                have kE : hdB ((wc).alloc (.cells #[] 5)) (w.heap.size + 1) (.int .i64 0) (.int .i64 0) (.slice none 0 0) (.slice none 0 0) (.slice none 0 0) (.int .i64 0) (.int .i64 0) (.int .i64 0) := (Below.heap_alloc _ _ _ ltE).trans A10.out.rbk
                have bE : Below w.heap.size w ((wc).alloc (.cells #[] 5)) := (A10.out.old).alloc (A10.out.old).size _
                have hE8 : (st8 ((wc).alloc (.cells #[] 5)) (w.heap.size + 1) (.int .i64 0) (.int .i64 0) (.slice none 0 0) (.slice none 0 0) (.slice none 0 0) (.int .i64 0) (.int .i64 0) (.int .i64 0)).heap[w.heap.size + 1]? = _ := st8_heap kE
                have oE : (st8 ((wc).alloc (.cells #[] 5)) (w.heap.size + 1) (.int .i64 0) (.int .i64 0) (.slice none 0 0) (.slice none 0 0) (.slice none 0 0) (.int .i64 0) (.int .i64 0) (.int .i64 0)).ownsRow w.heap.size 5 1 (.slice (some ⟨(wc).heap.size, 0, none⟩) 0 0) 0 [] := owns_mono (st8_owns (World.ownsRow_lit (wc) #[] 0 (Nat.le_refl _) (by decide) rfl) ltE) (by omega)
                have HQ : Hid _ := And.intro hE8 (And.intro (show Below w.heap.size w (st8 ((wc).alloc (.cells #[] 5)) (w.heap.size + 1) (.int .i64 0) (.int .i64 0) (.slice none 0 0) (.slice none 0 0) (.slice none 0 0) (.int .i64 0) (.int .i64 0) (.int .i64 0)) from st8_below bE (by omega)) oE)
                obtain ⟨zc0, zc1, zc2, zc3, zc4, zc5, zc6, zc7⟩ := hdB_cells kE
                obtain ⟨zf0, zf1, zf2, zf3, zf4, zf5, zf6, zf7⟩ := hdB_free kE
                clear ltE kE bE hE8 oE
                clear eT
                go_wp2_with fail
                refine bodyPost_ret (v := .tuple #[.agg #[.int .i64 0, .int .i64 0, .slice none 0 0, .slice none 0 0, .slice none 0 0, .int .i64 0, .int .i64 0, .int .i64 0], .slice (some ⟨(wc).heap.size, 0, none⟩) 0 0, .int .i64 3]) ?_ rfl ?_
                · exact results_row_tmp2 (t := 27) rfl _ _ (w.heap.size + 1) _ (fr := (0, 0)) _ _ _ rfl rfl rfl HQ.out.1 Tryz.underlying27 rfl infoHd
                · rw [HT.out]; exact OpErr.post ⟨_, rfl, HQ.out.2.2, HQ.out.2.1⟩
              · have hn0 : 0 ≤ num := by omega
                have hn1 : num ≤ 4611686018427387903 := by omega
                have dneg : decide (num < 0) = false := decide_eq_false (by omega)
                have eRest : Hid _ := pz_drop k xs na fin 4 v d s t vers hna hfx (by rw [HN.out]; omega)
                have eHead : Hid _ := pz_take k xs na fin hna hfx (by rw [HN.out]; omega)
                rw [HN.out] at eRest eHead
                have ehl : (opHead k xs na).length = na + nl := by have := opHead_length k xs na hna (by omega); rwa [HN.out] at this
                have erl : (opRest k xs ⟨4, v, d, s, t, vers, na, fin⟩).length = fin - (na + nl) := by rw [← eRest.out, List.length_drop, pz_length k xs na fin nl hfx]
                have Rh : Row wc .u8 (.slice (some ⟨hg, 0, none⟩) (na + nl) hc) (opHead k xs na) := by rw [← eHead.out]; exact hm_take O10.out.1 (by omega)
                have Rl : Lies wc hg 0 fin hc (pz k xs na fin nl) := ⟨pz_length k xs na fin nl hfx, cell_lt (owns_cell O10.out.1 (pz_length k xs na fin nl hfx) (k := 0) (by omega)), hcc1, hcc2, fun j hj => by rw [Nat.zero_add]; exact owns_cell O10.out.1 (pz_length k xs na fin nl hfx) hj⟩
                have Rr : Row wc .u8 (.slice (some ⟨hg, na + nl, none⟩) (fin - (na + nl)) (hc - (na + nl))) (opRest k xs ⟨4, v, d, s, t, vers, na, fin⟩) := by
                  have := Rl.row (na + nl) (fin - (na + nl)) (by omega)
                  rw [eRest.out, Nat.zero_add, List.take_of_length_le (by rw [erl]; exact Nat.le_refl _)] at this
                  exact this
                have bhd : Bytes (opHead k xs na) := by
                  unfold opHead
                  intro x hx
                  rcases List.mem_cons.1 hx with rfl | hx
                  · exact fstV_bd _ _
                  · rcases List.mem_append.1 hx with hx | hx
                    · exact sub_bytes HX.out.2.2.1 _ _ x hx
                    · exact opD_bytes _ _ _ x hx
                have D : Hid (Below wc.heap.size wc wc.drew) := ⟨rfl, rfl, rfl, Nat.le_refl _, fun _ _ => rfl⟩
                have AD : Hid _ := A10.out.step D.out
                have CS : Hid _ := And.intro (osSp _ (some ⟨hg, 0, none⟩) (na + nl) hc hg (na + nl) (fin - (na + nl)) (hc - (na + nl)) k num (opHead k xs na) (opRest k xs ⟨4, v, d, s, t, vers, na, fin⟩) wc.drew AD.out.keyW HK0.out.2.1 HK0.out.2.2.1 hn0 hn1 ehl erl hni (by omega) (by omega) (Rh.below D.out) (Rr.below D.out) bhd (sub_bytes HX.out.2.2.1 _ _)) True.intro
                obtain ⟨oe, hoe⟩ : ∃ q, osE k num (opHead k xs na) (opRest k xs ⟨4, v, d, s, t, vers, na, fin⟩) = q := ⟨_, rfl⟩
                obtain ⟨ov, hov⟩ : ∃ q, osV k num (opHead k xs na) (opRest k xs ⟨4, v, d, s, t, vers, na, fin⟩) = q := ⟨_, rfl⟩
                rw [hoe, hov] at CS
                have HQ0 : Hid _ := And.intro hoe (And.intro hov True.intro)
                clear hoe hov ehl erl Rh Rl Rr bhd hn0 hn1
                go_upto_region 26 with fail
                go_cut [13, 19] from 161 to 182 (fun ce cb wx => ce = .int .i64 oe ∧ wx.ownsRow wc.heap.size 5 1 cb ov.length (ov.map (Value.int .u8)) ∧ Below wc.heap.size wc wx)
                case first =>
                  obtain ⟨e0, e1, e2, e3⟩ := AD.out.c4
                  have e5 : wc.drew.cell? ⟨w2.heap.size, 5, none⟩ = some (.int .i64 num) := (bk_cell AD.out.hbk 5).trans rfl
                  have e6 : wc.drew.cell? ⟨w2.heap.size, 6, none⟩ = some (.int .i64 (nl : Int)) := (bk_cell AD.out.hbk 6).trans rfl
                  go_region_held3 (fun w' => w'.cell? ⟨w.heap.size, 0, none⟩ = some (.slice a0 k.a.length p0) ∧ w'.cell? ⟨w.heap.size, 1, none⟩ = some (.slice a1 k.b.length p1) ∧ w'.cell? ⟨w.heap.size, 2, none⟩ = some (.slice a2 k.c.length p2) ∧ w'.cell? ⟨w.heap.size, 3, none⟩ = some (.slice a3 k.d.length p3) ∧ w'.cell? ⟨w2.heap.size, 5, none⟩ = some (.int .i64 num) ∧ w'.cell? ⟨w2.heap.size, 6, none⟩ = some (.int .i64 (nl : Int))) (go_keep)
                    (first | (go_at_call 26; refine CS.out.1.mono ?_; rintro e wy ⟨r, rfl, orr, br⟩; have AY : Hid _ := AD.out.step br; obtain ⟨y0, y1, y2, y3⟩ := AY.out.c4; have y5 : wy.cell? ⟨w2.heap.size, 5, none⟩ = some (.int .i64 num) := (bk_cell AY.out.hbk 5).trans rfl; have y6 : wy.cell? ⟨w2.heap.size, 6, none⟩ = some (.int .i64 (nl : Int)) := (bk_cell AY.out.hbk 6).trans rfl))
                  all_goals
                    obtain ⟨ra, rp, er⟩ := (row_of_owns orr).form
                    subst er
                    go_wp2_with fail
                    go_meet
                    exact ⟨rfl, orr, D.out.trans (br.mono D.out.size)⟩
                case rest =>
                  obtain ⟨rfl, o11, b11⟩ := hcut
                  obtain ⟨ra, rp, er⟩ := (row_of_owns o11).form
                  subst er
                  have A11 : Hid _ := A10.out.step b11
                  have O11 : Hid _ := And.intro o11 (show W3.heap.size ≤ _ from A10.out.chg.size)
                  clear o11 b11 A10 O10 AD D CS c5 c6
                  by_cases hoe0 : oe = 0
                  · by_cases hid : ID = 0
                    · have eT : opT k xs ⟨4, v, d, s, t, vers, na, fin⟩ l = (⟨4, v, d, s, t, num, nl, ph⟩, ov, 0) := by
                        unfold opT
                        rw [if_neg (by show ¬ opNum k xs na l < 0; rw [HNu.out]; omega), if_neg (by show ¬ osE k (opNum k xs na l) _ _ ≠ 0; rw [HNu.out, HQ0.out.1]; simpa using hoe0), if_neg (by show ¬ opIdle k xs na ≠ 0; rw [HP.out.2.1]; simpa using hid)]
                        show (H8.mk 4 v d s t (opNum k xs na l) (opL k xs na) (opPh k xs na), osV k (opNum k xs na l) _ _, (0 : Int)) = _
                        rw [HNu.out, HQ0.out.2.1, HN.out, HP.out.1]
                      have HT : Hid _ := eT
                      obtain ⟨zc0, zc1, zc2, zc3, zc4, zc5, zc6, zc7⟩ := hdB_cells A11.out.rbk
                      obtain ⟨zf0, zf1, zf2, zf3, zf4, zf5, zf6, zf7⟩ := hdB_free A11.out.rbk
                      have hE8 : (st8 wc (w.heap.size + 1) (.int .i64 4) (.int .i64 v) (.slice da d.length dp) (.slice sa s.length sp) (.slice ta t.length tp) (.int .i64 num) (.int .i64 (nl : Int)) (.int .i64 ph)).heap[w.heap.size + 1]? = _ := st8_heap A11.out.rbk
                      have HQ : Hid _ := And.intro hE8 (show Below w.heap.size w (st8 wc (w.heap.size + 1) (.int .i64 4) (.int .i64 v) (.slice da d.length dp) (.slice sa s.length sp) (.slice ta t.length tp) (.int .i64 num) (.int .i64 (nl : Int)) (.int .i64 ph)) from st8_below A11.out.old (by omega))
                      have q0 : wc.cell? ⟨w2.heap.size, 0, none⟩ = _ := (bk_cell A11.out.hbk 0).trans rfl
                      have q1 : wc.cell? ⟨w2.heap.size, 1, none⟩ = _ := (bk_cell A11.out.hbk 1).trans rfl
                      have q2 : wc.cell? ⟨w2.heap.size, 2, none⟩ = _ := (bk_cell A11.out.hbk 2).trans rfl
                      have q3 : wc.cell? ⟨w2.heap.size, 3, none⟩ = _ := (bk_cell A11.out.hbk 3).trans rfl
                      have q4 : wc.cell? ⟨w2.heap.size, 4, none⟩ = _ := (bk_cell A11.out.hbk 4).trans rfl
                      have q5 : wc.cell? ⟨w2.heap.size, 5, none⟩ = _ := (bk_cell A11.out.hbk 5).trans rfl
                      have q6 : wc.cell? ⟨w2.heap.size, 6, none⟩ = _ := (bk_cell A11.out.hbk 6).trans rfl
                      have q7 : wc.cell? ⟨w2.heap.size, 7, none⟩ = _ := (bk_cell A11.out.hbk 7).trans rfl
                      have hidb : (ID != 0) = false := by simp [hid]
                      subst hoe0
                      clear eT hE8 hid
                      go_wp2_with fail
                      refine bodyPost_ret (v := .tuple #[.agg #[.int .i64 4, .int .i64 v, .slice da d.length dp, .slice sa s.length sp, .slice ta t.length tp, .int .i64 num, .int .i64 (nl : Int), .int .i64 ph], .slice ra ov.length rp, .int .i64 0]) ?_ rfl ?_
                      · exact results_row_tmp2 (t := 27) rfl _ _ (w.heap.size + 1) _ (fr := (0, 0)) _ _ _ rfl rfl rfl HQ.out.1 Tryz.underlying27 rfl infoHd
                      · rw [HT.out]
                        obtain ⟨i1, i2, i3, i4, i5, iog, isz⟩ := id HI.out
                        have lO := O11.out.2
                        have own : ∀ u m L, w2.ownsRow w1.heap.size 5 1 u m L → wc.ownsRow w1.heap.size 5 1 u m L := fun u m L hu => A11.out.chg.owns (owns_below hu HW.out.2.2.2.2.2.2.1) (fun q hq => by have := (hu.lt q hq).2; omega)
                        refine ⟨_, _, rfl, ?_, owns_mono (st8_owns O11.out.1 (by omega)) (by omega), ?_, HQ.out.2⟩
                        · exact ⟨_, _, _, rfl, owns_mono (st8_owns (own _ _ _ HW.out.1) (by omega)) (by omega), owns_mono (st8_owns (own _ _ _ HW.out.2.1) (by omega)) (by omega), owns_mono (st8_owns (own _ _ _ HW.out.2.2.1) (by omega)) (by omega), HW.out.2.2.2.1, HW.out.2.2.2.2.1, HW.out.2.2.2.2.2.1⟩
                        · intro gg hgg hr
                          have l1 := (O11.out.1.lt gg hr).1
                          obtain ⟨a0', a1', v2, v3, v4, a5', a6', a7', e, hh⟩ := hgg
                          simp only [Value.agg.injEq, Array.mk.injEq, List.cons.injEq] at e
                          obtain ⟨_, _, rfl, rfl, rfl, _⟩ := e
                          rcases hh with hh | hh | hh
                          · have := (HW.out.1.lt gg hh).2; omega
                          · have := (HW.out.2.1.lt gg hh).2; omega
                          · have := (HW.out.2.2.1.lt gg hh).2; omega
                    · have eT : opT k xs ⟨4, v, d, s, t, vers, na, fin⟩ l = (zH, [], 3) := by
                        unfold opT
                        rw [if_neg (by show ¬ opNum k xs na l < 0; rw [HNu.out]; omega), if_neg (by show ¬ osE k (opNum k xs na l) _ _ ≠ 0; rw [HNu.out, HQ0.out.1]; simpa using hoe0), if_pos (by show opIdle k xs na ≠ 0; rw [HP.out.2.1]; exact hid)]
                      have HT : Hid _ := eT
                      have hidb : (ID != 0) = true := by simpa using hid
                      subst hoe0
                      have ltE : w.heap.size + 1 < (wc).heap.size := (Array.getElem?_eq_some_iff.1 A11.out.rbk).1
                      have kE : hdB ((wc).alloc (.cells #[] 5)) (w.heap.size + 1) (.int .i64 0) (.int .i64 0) (.slice none 0 0) (.slice none 0 0) (.slice none 0 0) (.int .i64 0) (.int .i64 0) (.int .i64 0) := (Below.heap_alloc _ _ _ ltE).trans A11.out.rbk
                      have bE : Below w.heap.size w ((wc).alloc (.cells #[] 5)) := (A11.out.old).alloc (A11.out.old).size _
                      have hE8 : (st8 ((wc).alloc (.cells #[] 5)) (w.heap.size + 1) (.int .i64 0) (.int .i64 0) (.slice none 0 0) (.slice none 0 0) (.slice none 0 0) (.int .i64 0) (.int .i64 0) (.int .i64 0)).heap[w.heap.size + 1]? = _ := st8_heap kE
                      have oE : (st8 ((wc).alloc (.cells #[] 5)) (w.heap.size + 1) (.int .i64 0) (.int .i64 0) (.slice none 0 0) (.slice none 0 0) (.slice none 0 0) (.int .i64 0) (.int .i64 0) (.int .i64 0)).ownsRow w.heap.size 5 1 (.slice (some ⟨(wc).heap.size, 0, none⟩) 0 0) 0 [] := owns_mono (st8_owns (World.ownsRow_lit (wc) #[] 0 (Nat.le_refl _) (by decide) rfl) ltE) (by omega)
                      have HQ : Hid _ := And.intro hE8 (And.intro (show Below w.heap.size w (st8 ((wc).alloc (.cells #[] 5)) (w.heap.size + 1) (.int .i64 0) (.int .i64 0) (.slice none 0 0) (.slice none 0 0) (.slice none 0 0) (.int .i64 0) (.int .i64 0) (.int .i64 0)) from st8_below bE (by omega)) oE)
                      obtain ⟨zc0, zc1, zc2, zc3, zc4, zc5, zc6, zc7⟩ := hdB_cells kE
                      obtain ⟨zf0, zf1, zf2, zf3, zf4, zf5, zf6, zf7⟩ := hdB_free kE
                      clear ltE kE bE hE8 oE
                      clear eT
                      go_wp2_with fail
                      refine bodyPost_ret (v := .tuple #[.agg #[.int .i64 0, .int .i64 0, .slice none 0 0, .slice none 0 0, .slice none 0 0, .int .i64 0, .int .i64 0, .int .i64 0], .slice (some ⟨(wc).heap.size, 0, none⟩) 0 0, .int .i64 3]) ?_ rfl ?_
                      · exact results_row_tmp2 (t := 27) rfl _ _ (w.heap.size + 1) _ (fr := (0, 0)) _ _ _ rfl rfl rfl HQ.out.1 Tryz.underlying27 rfl infoHd
                      · rw [HT.out]; exact OpErr.post ⟨_, rfl, HQ.out.2.2, HQ.out.2.1⟩
                  · have eT : opT k xs ⟨4, v, d, s, t, vers, na, fin⟩ l = (zH, [], oe) := by
                      unfold opT
                      rw [if_neg (by show ¬ opNum k xs na l < 0; rw [HNu.out]; omega), if_pos (by show osE k (opNum k xs na l) _ _ ≠ 0; rw [HNu.out, HQ0.out.1]; exact hoe0)]
                      show (zH, [], osE k (opNum k xs na l) _ _) = _
                      rw [HNu.out, HQ0.out.1]
                    have HT : Hid _ := eT
                    have hod : (oe != 0) = true := by simpa using hoe0
                    have hoq : (oe == 0) = false := by simpa using hoe0
                    have ltE : w.heap.size + 1 < (wc).heap.size := (Array.getElem?_eq_some_iff.1 A11.out.rbk).1
                    have kE : hdB ((wc).alloc (.cells #[] 5)) (w.heap.size + 1) (.int .i64 0) (.int .i64 0) (.slice none 0 0) (.slice none 0 0) (.slice none 0 0) (.int .i64 0) (.int .i64 0) (.int .i64 0) := (Below.heap_alloc _ _ _ ltE).trans A11.out.rbk
                    have bE : Below w.heap.size w ((wc).alloc (.cells #[] 5)) := (A11.out.old).alloc (A11.out.old).size _
                    have hE8 : (st8 ((wc).alloc (.cells #[] 5)) (w.heap.size + 1) (.int .i64 0) (.int .i64 0) (.slice none 0 0) (.slice none 0 0) (.slice none 0 0) (.int .i64 0) (.int .i64 0) (.int .i64 0)).heap[w.heap.size + 1]? = _ := st8_heap kE
                    have oE : (st8 ((wc).alloc (.cells #[] 5)) (w.heap.size + 1) (.int .i64 0) (.int .i64 0) (.slice none 0 0) (.slice none 0 0) (.slice none 0 0) (.int .i64 0) (.int .i64 0) (.int .i64 0)).ownsRow w.heap.size 5 1 (.slice (some ⟨(wc).heap.size, 0, none⟩) 0 0) 0 [] := owns_mono (st8_owns (World.ownsRow_lit (wc) #[] 0 (Nat.le_refl _) (by decide) rfl) ltE) (by omega)
                    have HQ : Hid _ := And.intro hE8 (And.intro (show Below w.heap.size w (st8 ((wc).alloc (.cells #[] 5)) (w.heap.size + 1) (.int .i64 0) (.int .i64 0) (.slice none 0 0) (.slice none 0 0) (.slice none 0 0) (.int .i64 0) (.int .i64 0) (.int .i64 0)) from st8_below bE (by omega)) oE)
                    obtain ⟨zc0, zc1, zc2, zc3, zc4, zc5, zc6, zc7⟩ := hdB_cells kE
                    obtain ⟨zf0, zf1, zf2, zf3, zf4, zf5, zf6, zf7⟩ := hdB_free kE
                    clear ltE kE bE hE8 oE
                    clear eT
                    go_wp2_with fail
                    refine bodyPost_ret (v := .tuple #[.agg #[.int .i64 0, .int .i64 0, .slice none 0 0, .slice none 0 0, .slice none 0 0, .int .i64 0, .int .i64 0, .int .i64 0], .slice (some ⟨(wc).heap.size, 0, none⟩) 0 0, .int .i64 oe]) ?_ rfl ?_
                    · exact results_row_tmp2 (t := 27) rfl _ _ (w.heap.size + 1) _ (fr := (0, 0)) _ _ _ rfl rfl rfl HQ.out.1 Tryz.underlying27 rfl infoHd
                    · rw [HT.out]; exact OpErr.post ⟨_, rfl, HQ.out.2.2, HQ.out.2.1⟩
          · have e1 : ph = 0 := by rw [← eph]; unfold opPh; rw [if_pos hX]
            have e2 : bits .and .u8 F 12 = ID := by rw [← eID]; unfold opIdle; rw [if_pos hX, HFe.out]
            have hf4' : (f == 4) = false := by rcases hf4 with rfl | rfl <;> rfl
            clear hXb hMb hF32 hNL hFb hX eph eID
            go_upto_region 23 with fail
            have A9 : Hid (OsA w W3 wr w2.heap.size b off n cap k (.slice a0 k.a.length p0) (.slice a1 k.b.length p1) (.slice a2 k.c.length p2) (.slice a3 k.d.length p3) #[.int .i64 f, .int .i64 v, .slice da d.length dp, .slice sa s.length sp, .slice ta t.length tp, .int .i64 0, .int .i64 (nl : Int), .int .i64 ph] xs) := by have := AR.out; rw [e1]; exact this
            have O9 : Hid _ := And.intro OR.out.1 True.intro
            clear x0 cf0 cf7 ff7 hD1 hD2 c6 e2 e1 hf4' hjd
            generalize wr = W9 at A9 O9 ⊢
            have VD := vals_small (opD k xs na) (by rw [opD_length, HN.out]; omega) (opD_bytes _ _ _)
            have CR : ∀ u : World, (∀ j, u.cell? ⟨hg, j, none⟩ = W9.cell? ⟨hg, j, none⟩) → Calls Tryz.prog 25 #[.slice (some ⟨hg, na, none⟩) nl (hc - na)] u fun e w' => e = .returned (.int .i64 (vals (opD k xs na))) ∧ w' = u := by
              intro u hu
              refine value_core nl (opD k xs na) hg na (hc - na) u (by omega) (by rw [opD_length, HN.out]) (opD_bytes _ _ _) (by omega) (fun j hj => ?_)
              rw [hu, owns_cell O9.out.1 (pz_length k xs na fin nl hfx) (show na + j < fin by omega)]
              have := pz_mid k xs na fin hna hfx (by rw [HN.out]; omega) j (by rw [HN.out]; exact hj)
              rw [HN.out] at this
              rw [this]
            have CE : ∀ u : World, Calls Tryz.prog 24 #[.int .i64 l, .int .i64 (vals (opD k xs na)), .int .i64 (nl : Int)] u fun e w' => e = .returned (.int .i64 (opNum k xs na l)) ∧ w' = u := by
              intro u
              have := specEx l (vals (opD k xs na)) nl u (by omega)
              unfold opNum
              rw [HN.out]
              exact this
            have hNb := opNum_bd k xs na l
            have HR : Hid _ := And.intro CR (And.intro CE True.intro)
            obtain ⟨num, enum⟩ : ∃ q, opNum k xs na l = q := ⟨_, rfl⟩
            rw [enum] at HR hNb
            have HNu : Hid _ := enum
            generalize vals (opD k xs na) = V at VD HR
            have hcc := hm_cap O9.out.1
            obtain ⟨hcc1, hcc2⟩ := hcc
            obtain ⟨VD1, VD2⟩ := VD
            have u1 : IntKind.i64.wrap ((na : Int) + (nl : Int)) = (na : Int) + (nl : Int) := by rw [IntKind.wrap_i64]; omega
            have u2 : 0 ≤ (na : Int) + (nl : Int) ∧ (na : Int) + (nl : Int) ≤ (hc : Int) := by omega
            have u3 : ((na : Int) + (nl : Int)).toNat = na + nl := by omega
            have u4 : (na : Int) ≤ max ((na : Int) + (nl : Int)) 0 := by omega
            have u5 : (hc = na) = False := by simp; omega
            have u6 : na + nl - na = nl := by omega
            have u7 : (hc = na + nl) = False := by simp; omega
            have u8 : (na : Int) + (nl : Int) ≤ (fin : Int) := by omega
            have u9 : 0 ≤ (na : Int) + (nl : Int) := by omega
            clear CR CE enum
            go_cut [] from 132 to 158 (fun wx => OsA w W3 wx w2.heap.size b off n cap k (.slice a0 k.a.length p0) (.slice a1 k.b.length p1) (.slice a2 k.c.length p2) (.slice a3 k.d.length p3) #[.int .i64 f, .int .i64 v, .slice da d.length dp, .slice sa s.length sp, .slice ta t.length tp, .int .i64 num, .int .i64 (nl : Int), .int .i64 ph] xs ∧ wx.ownsRow zc 5 1 (.slice (some ⟨hg, 0, none⟩) fin hc) fin ((pz k xs na fin nl).map (Value.int .u8)))
            case first =>
              have c6 : W9.cell? ⟨w2.heap.size, 6, none⟩ = some (.int .i64 (nl : Int)) := (bk_cell A9.out.hbk 6).trans rfl
              have c5 : W9.cell? ⟨w2.heap.size, 5, none⟩ = some (.int .i64 0) := (bk_cell A9.out.hbk 5).trans rfl
              have f5 := bk_free A9.out.hbk 5
              go_region_with (first
                | (go_at_call 25; refine (HR.out.1 W9.drew (fun j => rfl)).mono ?_; rintro e wy ⟨rfl, rfl⟩)
                | (go_at_call 24; refine (HR.out.2.1 _).mono ?_; rintro e wy ⟨rfl, rfl⟩))
              all_goals
                go_wp2_with fail
                go_meet
                obtain ⟨i1, i2, i3, i4, i5, iog, isz⟩ := id HI.out
                refine ⟨(A9.out.step ((Below.refl _ W9).drew)).set 5 (.int .i64 num), ?_⟩
                have o9 : W9.drew.ownsRow zc 5 1 (.slice (some ⟨hg, 0, none⟩) fin hc) fin ((pz k xs na fin nl).map (Value.int .u8)) := O9.out.1
                exact (Only.setCell (w := W9.drew) ⟨w2.heap.size, 5, none⟩ _).owns o9 (fun k2 h2 => by simp [Value.ownBlock] at h2; subst h2; simp; omega)
            case rest =>
              obtain ⟨A10', o10⟩ := hcut
              have A10 : Hid _ := A10'
              have O10 : Hid _ := And.intro o10 True.intro
              clear A10' o10 A9 O9 HR
              have c5 : wc.cell? ⟨w2.heap.size, 5, none⟩ = some (.int .i64 num) := (bk_cell A10.out.hbk 5).trans rfl
              have c6 : wc.cell? ⟨w2.heap.size, 6, none⟩ = some (.int .i64 (nl : Int)) := (bk_cell A10.out.hbk 6).trans rfl
              by_cases hneg : num = -1
              · have eT : opT k xs ⟨f, v, d, s, t, vers, na, fin⟩ l = (zH, [], 3) := by
                  unfold opT
                  rw [if_pos (by show opNum k xs na l < 0; rw [HNu.out]; omega)]
                have HT : Hid _ := eT
                subst hneg
                have ltE : w.heap.size + 1 < (wc).heap.size := (Array.getElem?_eq_some_iff.1 A10.out.rbk).1
                have kE : hdB ((wc).alloc (.cells #[] 5)) (w.heap.size + 1) (.int .i64 0) (.int .i64 0) (.slice none 0 0) (.slice none 0 0) (.slice none 0 0) (.int .i64 0) (.int .i64 0) (.int .i64 0) := (Below.heap_alloc _ _ _ ltE).trans A10.out.rbk
                have bE : Below w.heap.size w ((wc).alloc (.cells #[] 5)) := (A10.out.old).alloc (A10.out.old).size _
                have hE8 : (st8 ((wc).alloc (.cells #[] 5)) (w.heap.size + 1) (.int .i64 0) (.int .i64 0) (.slice none 0 0) (.slice none 0 0) (.slice none 0 0) (.int .i64 0) (.int .i64 0) (.int .i64 0)).heap[w.heap.size + 1]? = _ := st8_heap kE
                have oE : (st8 ((wc).alloc (.cells #[] 5)) (w.heap.size + 1) (.int .i64 0) (.int .i64 0) (.slice none 0 0) (.slice none 0 0) (.slice none 0 0) (.int .i64 0) (.int .i64 0) (.int .i64 0)).ownsRow w.heap.size 5 1 (.slice (some ⟨(wc).heap.size, 0, none⟩) 0 0) 0 [] := owns_mono (st8_owns (World.ownsRow_lit (wc) #[] 0 (Nat.le_refl _) (by decide) rfl) ltE) (by omega)
                have HQ : Hid _ := And.intro hE8 (And.intro (show Below w.heap.size w (st8 ((wc).alloc (.cells #[] 5)) (w.heap.size + 1) (.int .i64 0) (.int .i64 0) (.slice none 0 0) (.slice none 0 0) (.slice none 0 0) (.int .i64 0) (.int .i64 0) (.int .i64 0)) from st8_below bE (by omega)) oE)
                obtain ⟨zc0, zc1, zc2, zc3, zc4, zc5, zc6, zc7⟩ := hdB_cells kE
                obtain ⟨zf0, zf1, zf2, zf3, zf4, zf5, zf6, zf7⟩ := hdB_free kE
                clear ltE kE bE hE8 oE
                clear eT
                go_wp2_with fail
                refine bodyPost_ret (v := .tuple #[.agg #[.int .i64 0, .int .i64 0, .slice none 0 0, .slice none 0 0, .slice none 0 0, .int .i64 0, .int .i64 0, .int .i64 0], .slice (some ⟨(wc).heap.size, 0, none⟩) 0 0, .int .i64 3]) ?_ rfl ?_
                · exact results_row_tmp2 (t := 27) rfl _ _ (w.heap.size + 1) _ (fr := (0, 0)) _ _ _ rfl rfl rfl HQ.out.1 Tryz.underlying27 rfl infoHd
                · rw [HT.out]; exact OpErr.post ⟨_, rfl, HQ.out.2.2, HQ.out.2.1⟩
              · have hn0 : 0 ≤ num := by omega
                have hn1 : num ≤ 4611686018427387903 := by omega
                have dneg : decide (num < 0) = false := decide_eq_false (by omega)
                have eRest : Hid _ := pz_drop k xs na fin f v d s t vers hna hfx (by rw [HN.out]; omega)
                have eHead : Hid _ := pz_take k xs na fin hna hfx (by rw [HN.out]; omega)
                rw [HN.out] at eRest eHead
                have ehl : (opHead k xs na).length = na + nl := by have := opHead_length k xs na hna (by omega); rwa [HN.out] at this
                have erl : (opRest k xs ⟨f, v, d, s, t, vers, na, fin⟩).length = fin - (na + nl) := by rw [← eRest.out, List.length_drop, pz_length k xs na fin nl hfx]
                have Rh : Row wc .u8 (.slice (some ⟨hg, 0, none⟩) (na + nl) hc) (opHead k xs na) := by rw [← eHead.out]; exact hm_take O10.out.1 (by omega)
                have Rl : Lies wc hg 0 fin hc (pz k xs na fin nl) := ⟨pz_length k xs na fin nl hfx, cell_lt (owns_cell O10.out.1 (pz_length k xs na fin nl hfx) (k := 0) (by omega)), hcc1, hcc2, fun j hj => by rw [Nat.zero_add]; exact owns_cell O10.out.1 (pz_length k xs na fin nl hfx) hj⟩
                have Rr : Row wc .u8 (.slice (some ⟨hg, na + nl, none⟩) (fin - (na + nl)) (hc - (na + nl))) (opRest k xs ⟨f, v, d, s, t, vers, na, fin⟩) := by
                  have := Rl.row (na + nl) (fin - (na + nl)) (by omega)
                  rw [eRest.out, Nat.zero_add, List.take_of_length_le (by rw [erl]; exact Nat.le_refl _)] at this
                  exact this
                have bhd : Bytes (opHead k xs na) := by
                  unfold opHead
                  intro x hx
                  rcases List.mem_cons.1 hx with rfl | hx
                  · exact fstV_bd _ _
                  · rcases List.mem_append.1 hx with hx | hx
                    · exact sub_bytes HX.out.2.2.1 _ _ x hx
                    · exact opD_bytes _ _ _ x hx
                have D : Hid (Below wc.heap.size wc wc.drew) := ⟨rfl, rfl, rfl, Nat.le_refl _, fun _ _ => rfl⟩
                have AD : Hid _ := A10.out.step D.out
                have CS : Hid _ := And.intro (osSp _ (some ⟨hg, 0, none⟩) (na + nl) hc hg (na + nl) (fin - (na + nl)) (hc - (na + nl)) k num (opHead k xs na) (opRest k xs ⟨f, v, d, s, t, vers, na, fin⟩) wc.drew AD.out.keyW HK0.out.2.1 HK0.out.2.2.1 hn0 hn1 ehl erl hni (by omega) (by omega) (Rh.below D.out) (Rr.below D.out) bhd (sub_bytes HX.out.2.2.1 _ _)) True.intro
                obtain ⟨oe, hoe⟩ : ∃ q, osE k num (opHead k xs na) (opRest k xs ⟨f, v, d, s, t, vers, na, fin⟩) = q := ⟨_, rfl⟩
                obtain ⟨ov, hov⟩ : ∃ q, osV k num (opHead k xs na) (opRest k xs ⟨f, v, d, s, t, vers, na, fin⟩) = q := ⟨_, rfl⟩
                rw [hoe, hov] at CS
                have HQ0 : Hid _ := And.intro hoe (And.intro hov True.intro)
                clear hoe hov ehl erl Rh Rl Rr bhd hn0 hn1
                go_upto_region 26 with fail
                go_cut [13, 19] from 161 to 182 (fun ce cb wx => ce = .int .i64 oe ∧ wx.ownsRow wc.heap.size 5 1 cb ov.length (ov.map (Value.int .u8)) ∧ Below wc.heap.size wc wx)
                case first =>
                  obtain ⟨e0, e1, e2, e3⟩ := AD.out.c4
                  have e5 : wc.drew.cell? ⟨w2.heap.size, 5, none⟩ = some (.int .i64 num) := (bk_cell AD.out.hbk 5).trans rfl
                  have e6 : wc.drew.cell? ⟨w2.heap.size, 6, none⟩ = some (.int .i64 (nl : Int)) := (bk_cell AD.out.hbk 6).trans rfl
                  go_region_held3 (fun w' => w'.cell? ⟨w.heap.size, 0, none⟩ = some (.slice a0 k.a.length p0) ∧ w'.cell? ⟨w.heap.size, 1, none⟩ = some (.slice a1 k.b.length p1) ∧ w'.cell? ⟨w.heap.size, 2, none⟩ = some (.slice a2 k.c.length p2) ∧ w'.cell? ⟨w.heap.size, 3, none⟩ = some (.slice a3 k.d.length p3) ∧ w'.cell? ⟨w2.heap.size, 5, none⟩ = some (.int .i64 num) ∧ w'.cell? ⟨w2.heap.size, 6, none⟩ = some (.int .i64 (nl : Int))) (go_keep)
                    (first | (go_at_call 26; refine CS.out.1.mono ?_; rintro e wy ⟨r, rfl, orr, br⟩; have AY : Hid _ := AD.out.step br; obtain ⟨y0, y1, y2, y3⟩ := AY.out.c4; have y5 : wy.cell? ⟨w2.heap.size, 5, none⟩ = some (.int .i64 num) := (bk_cell AY.out.hbk 5).trans rfl; have y6 : wy.cell? ⟨w2.heap.size, 6, none⟩ = some (.int .i64 (nl : Int)) := (bk_cell AY.out.hbk 6).trans rfl))
                  all_goals
                    obtain ⟨ra, rp, er⟩ := (row_of_owns orr).form
                    subst er
                    go_wp2_with fail
                    go_meet
                    exact ⟨rfl, orr, D.out.trans (br.mono D.out.size)⟩
                case rest =>
                  obtain ⟨rfl, o11, b11⟩ := hcut
                  obtain ⟨ra, rp, er⟩ := (row_of_owns o11).form
                  subst er
                  have A11 : Hid _ := A10.out.step b11
                  have O11 : Hid _ := And.intro o11 (show W3.heap.size ≤ _ from A10.out.chg.size)
                  clear o11 b11 A10 O10 AD D CS c5 c6
                  by_cases hoe0 : oe = 0
                  · by_cases hid : ID = 0
                    · have eT : opT k xs ⟨f, v, d, s, t, vers, na, fin⟩ l = (⟨f, v, d, s, t, num, nl, ph⟩, ov, 0) := by
                        unfold opT
                        rw [if_neg (by show ¬ opNum k xs na l < 0; rw [HNu.out]; omega), if_neg (by show ¬ osE k (opNum k xs na l) _ _ ≠ 0; rw [HNu.out, HQ0.out.1]; simpa using hoe0), if_neg (by show ¬ opIdle k xs na ≠ 0; rw [HP.out.2.1]; simpa using hid)]
                        show (H8.mk f v d s t (opNum k xs na l) (opL k xs na) (opPh k xs na), osV k (opNum k xs na l) _ _, (0 : Int)) = _
                        rw [HNu.out, HQ0.out.2.1, HN.out, HP.out.1]
                      have HT : Hid _ := eT
                      obtain ⟨zc0, zc1, zc2, zc3, zc4, zc5, zc6, zc7⟩ := hdB_cells A11.out.rbk
                      obtain ⟨zf0, zf1, zf2, zf3, zf4, zf5, zf6, zf7⟩ := hdB_free A11.out.rbk
                      have hE8 : (st8 wc (w.heap.size + 1) (.int .i64 f) (.int .i64 v) (.slice da d.length dp) (.slice sa s.length sp) (.slice ta t.length tp) (.int .i64 num) (.int .i64 (nl : Int)) (.int .i64 ph)).heap[w.heap.size + 1]? = _ := st8_heap A11.out.rbk
                      have HQ : Hid _ := And.intro hE8 (show Below w.heap.size w (st8 wc (w.heap.size + 1) (.int .i64 f) (.int .i64 v) (.slice da d.length dp) (.slice sa s.length sp) (.slice ta t.length tp) (.int .i64 num) (.int .i64 (nl : Int)) (.int .i64 ph)) from st8_below A11.out.old (by omega))
                      have q0 : wc.cell? ⟨w2.heap.size, 0, none⟩ = _ := (bk_cell A11.out.hbk 0).trans rfl
                      have q1 : wc.cell? ⟨w2.heap.size, 1, none⟩ = _ := (bk_cell A11.out.hbk 1).trans rfl
                      have q2 : wc.cell? ⟨w2.heap.size, 2, none⟩ = _ := (bk_cell A11.out.hbk 2).trans rfl
                      have q3 : wc.cell? ⟨w2.heap.size, 3, none⟩ = _ := (bk_cell A11.out.hbk 3).trans rfl
                      have q4 : wc.cell? ⟨w2.heap.size, 4, none⟩ = _ := (bk_cell A11.out.hbk 4).trans rfl
                      have q5 : wc.cell? ⟨w2.heap.size, 5, none⟩ = _ := (bk_cell A11.out.hbk 5).trans rfl
                      have q6 : wc.cell? ⟨w2.heap.size, 6, none⟩ = _ := (bk_cell A11.out.hbk 6).trans rfl
                      have q7 : wc.cell? ⟨w2.heap.size, 7, none⟩ = _ := (bk_cell A11.out.hbk 7).trans rfl
                      have hidb : (ID != 0) = false := by simp [hid]
                      subst hoe0
                      clear eT hE8 hid
                      go_wp2_with fail
                      refine bodyPost_ret (v := .tuple #[.agg #[.int .i64 f, .int .i64 v, .slice da d.length dp, .slice sa s.length sp, .slice ta t.length tp, .int .i64 num, .int .i64 (nl : Int), .int .i64 ph], .slice ra ov.length rp, .int .i64 0]) ?_ rfl ?_
                      · exact results_row_tmp2 (t := 27) rfl _ _ (w.heap.size + 1) _ (fr := (0, 0)) _ _ _ rfl rfl rfl HQ.out.1 Tryz.underlying27 rfl infoHd
                      · rw [HT.out]
                        obtain ⟨i1, i2, i3, i4, i5, iog, isz⟩ := id HI.out
                        have lO := O11.out.2
                        have own : ∀ u m L, w2.ownsRow w1.heap.size 5 1 u m L → wc.ownsRow w1.heap.size 5 1 u m L := fun u m L hu => A11.out.chg.owns (owns_below hu HW.out.2.2.2.2.2.2.1) (fun q hq => by have := (hu.lt q hq).2; omega)
                        refine ⟨_, _, rfl, ?_, owns_mono (st8_owns O11.out.1 (by omega)) (by omega), ?_, HQ.out.2⟩
                        · exact ⟨_, _, _, rfl, owns_mono (st8_owns (own _ _ _ HW.out.1) (by omega)) (by omega), owns_mono (st8_owns (own _ _ _ HW.out.2.1) (by omega)) (by omega), owns_mono (st8_owns (own _ _ _ HW.out.2.2.1) (by omega)) (by omega), HW.out.2.2.2.1, HW.out.2.2.2.2.1, HW.out.2.2.2.2.2.1⟩
                        · intro gg hgg hr
                          have l1 := (O11.out.1.lt gg hr).1
                          obtain ⟨a0', a1', v2, v3, v4, a5', a6', a7', e, hh⟩ := hgg
                          simp only [Value.agg.injEq, Array.mk.injEq, List.cons.injEq] at e
                          obtain ⟨_, _, rfl, rfl, rfl, _⟩ := e
                          rcases hh with hh | hh | hh
                          · have := (HW.out.1.lt gg hh).2; omega
                          · have := (HW.out.2.1.lt gg hh).2; omega
                          · have := (HW.out.2.2.1.lt gg hh).2; omega
                    · have eT : opT k xs ⟨f, v, d, s, t, vers, na, fin⟩ l = (zH, [], 3) := by
                        unfold opT
                        rw [if_neg (by show ¬ opNum k xs na l < 0; rw [HNu.out]; omega), if_neg (by show ¬ osE k (opNum k xs na l) _ _ ≠ 0; rw [HNu.out, HQ0.out.1]; simpa using hoe0), if_pos (by show opIdle k xs na ≠ 0; rw [HP.out.2.1]; exact hid)]
                      have HT : Hid _ := eT
                      have hidb : (ID != 0) = true := by simpa using hid
                      subst hoe0
                      have ltE : w.heap.size + 1 < (wc).heap.size := (Array.getElem?_eq_some_iff.1 A11.out.rbk).1
                      have kE : hdB ((wc).alloc (.cells #[] 5)) (w.heap.size + 1) (.int .i64 0) (.int .i64 0) (.slice none 0 0) (.slice none 0 0) (.slice none 0 0) (.int .i64 0) (.int .i64 0) (.int .i64 0) := (Below.heap_alloc _ _ _ ltE).trans A11.out.rbk
                      have bE : Below w.heap.size w ((wc).alloc (.cells #[] 5)) := (A11.out.old).alloc (A11.out.old).size _
                      have hE8 : (st8 ((wc).alloc (.cells #[] 5)) (w.heap.size + 1) (.int .i64 0) (.int .i64 0) (.slice none 0 0) (.slice none 0 0) (.slice none 0 0) (.int .i64 0) (.int .i64 0) (.int .i64 0)).heap[w.heap.size + 1]? = _ := st8_heap kE
                      have oE : (st8 ((wc).alloc (.cells #[] 5)) (w.heap.size + 1) (.int .i64 0) (.int .i64 0) (.slice none 0 0) (.slice none 0 0) (.slice none 0 0) (.int .i64 0) (.int .i64 0) (.int .i64 0)).ownsRow w.heap.size 5 1 (.slice (some ⟨(wc).heap.size, 0, none⟩) 0 0) 0 [] := owns_mono (st8_owns (World.ownsRow_lit (wc) #[] 0 (Nat.le_refl _) (by decide) rfl) ltE) (by omega)
                      have HQ : Hid _ := And.intro hE8 (And.intro (show Below w.heap.size w (st8 ((wc).alloc (.cells #[] 5)) (w.heap.size + 1) (.int .i64 0) (.int .i64 0) (.slice none 0 0) (.slice none 0 0) (.slice none 0 0) (.int .i64 0) (.int .i64 0) (.int .i64 0)) from st8_below bE (by omega)) oE)
                      obtain ⟨zc0, zc1, zc2, zc3, zc4, zc5, zc6, zc7⟩ := hdB_cells kE
                      obtain ⟨zf0, zf1, zf2, zf3, zf4, zf5, zf6, zf7⟩ := hdB_free kE
                      clear ltE kE bE hE8 oE
                      clear eT
                      go_wp2_with fail
                      refine bodyPost_ret (v := .tuple #[.agg #[.int .i64 0, .int .i64 0, .slice none 0 0, .slice none 0 0, .slice none 0 0, .int .i64 0, .int .i64 0, .int .i64 0], .slice (some ⟨(wc).heap.size, 0, none⟩) 0 0, .int .i64 3]) ?_ rfl ?_
                      · exact results_row_tmp2 (t := 27) rfl _ _ (w.heap.size + 1) _ (fr := (0, 0)) _ _ _ rfl rfl rfl HQ.out.1 Tryz.underlying27 rfl infoHd
                      · rw [HT.out]; exact OpErr.post ⟨_, rfl, HQ.out.2.2, HQ.out.2.1⟩
                  · have eT : opT k xs ⟨f, v, d, s, t, vers, na, fin⟩ l = (zH, [], oe) := by
                      unfold opT
                      rw [if_neg (by show ¬ opNum k xs na l < 0; rw [HNu.out]; omega), if_pos (by show osE k (opNum k xs na l) _ _ ≠ 0; rw [HNu.out, HQ0.out.1]; exact hoe0)]
                      show (zH, [], osE k (opNum k xs na l) _ _) = _
                      rw [HNu.out, HQ0.out.1]
                    have HT : Hid _ := eT
                    have hod : (oe != 0) = true := by simpa using hoe0
                    have hoq : (oe == 0) = false := by simpa using hoe0
                    have ltE : w.heap.size + 1 < (wc).heap.size := (Array.getElem?_eq_some_iff.1 A11.out.rbk).1
                    have kE : hdB ((wc).alloc (.cells #[] 5)) (w.heap.size + 1) (.int .i64 0) (.int .i64 0) (.slice none 0 0) (.slice none 0 0) (.slice none 0 0) (.int .i64 0) (.int .i64 0) (.int .i64 0) := (Below.heap_alloc _ _ _ ltE).trans A11.out.rbk
                    have bE : Below w.heap.size w ((wc).alloc (.cells #[] 5)) := (A11.out.old).alloc (A11.out.old).size _
                    have hE8 : (st8 ((wc).alloc (.cells #[] 5)) (w.heap.size + 1) (.int .i64 0) (.int .i64 0) (.slice none 0 0) (.slice none 0 0) (.slice none 0 0) (.int .i64 0) (.int .i64 0) (.int .i64 0)).heap[w.heap.size + 1]? = _ := st8_heap kE
                    have oE : (st8 ((wc).alloc (.cells #[] 5)) (w.heap.size + 1) (.int .i64 0) (.int .i64 0) (.slice none 0 0) (.slice none 0 0) (.slice none 0 0) (.int .i64 0) (.int .i64 0) (.int .i64 0)).ownsRow w.heap.size 5 1 (.slice (some ⟨(wc).heap.size, 0, none⟩) 0 0) 0 [] := owns_mono (st8_owns (World.ownsRow_lit (wc) #[] 0 (Nat.le_refl _) (by decide) rfl) ltE) (by omega)
                    have HQ : Hid _ := And.intro hE8 (And.intro (show Below w.heap.size w (st8 ((wc).alloc (.cells #[] 5)) (w.heap.size + 1) (.int .i64 0) (.int .i64 0) (.slice none 0 0) (.slice none 0 0) (.slice none 0 0) (.int .i64 0) (.int .i64 0) (.int .i64 0)) from st8_below bE (by omega)) oE)
                    obtain ⟨zc0, zc1, zc2, zc3, zc4, zc5, zc6, zc7⟩ := hdB_cells kE
                    obtain ⟨zf0, zf1, zf2, zf3, zf4, zf5, zf6, zf7⟩ := hdB_free kE
                    clear ltE kE bE hE8 oE
                    clear eT
                    go_wp2_with fail
                    refine bodyPost_ret (v := .tuple #[.agg #[.int .i64 0, .int .i64 0, .slice none 0 0, .slice none 0 0, .slice none 0 0, .int .i64 0, .int .i64 0, .int .i64 0], .slice (some ⟨(wc).heap.size, 0, none⟩) 0 0, .int .i64 oe]) ?_ rfl ?_
                    · exact results_row_tmp2 (t := 27) rfl _ _ (w.heap.size + 1) _ (fr := (0, 0)) _ _ _ rfl rfl rfl HQ.out.1 Tryz.underlying27 rfl infoHd
                    · rw [HT.out]; exact OpErr.post ⟨_, rfl, HQ.out.2.2, HQ.out.2.1⟩

end Go.Proofs.YthokfbgpoffafaaGreatDoor
