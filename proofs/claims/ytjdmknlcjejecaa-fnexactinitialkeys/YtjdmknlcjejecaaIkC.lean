import Derived.Test.YtjdmknlcjejecaaIkB
import Derived.Test.YtjdmknlcjejecaaInitialKeysLaw
namespace Go.Proofs.Ytjdmknlcjejecaa
open Go.RowKit
set_option linter.unusedVariables false

abbrev Cb (x : Value) : Obj := .cells #[x] 22
abbrev W3 (w : World) (x : Value) : World := ((w.alloc Kz).alloc Kz).alloc (Cb x)
abbrev W4 (w : World) (x : Value) : World := (W3 w x).alloc InF
abbrev W5 (w : World) (x : Value) (v : Int) : World := (W4 w x).alloc (.cells #[.int .i64 v] 3)
theorem w3_size (w : World) (x : Value) : (W3 w x).heap.size = w.heap.size + 1 + 1 + 1 := by simp
theorem w4_size (w : World) (x : Value) : (W4 w x).heap.size = w.heap.size + 1 + 1 + 1 + 1 := by simp
theorem w5_size (w : World) (x : Value) (v : Int) : (W5 w x v).heap.size = w.heap.size + 1 + 1 + 1 + 1 + 1 := by simp
theorem w5_below (w : World) (x : Value) (v : Int) : Below w.heap.size w (W5 w x v) := (((((Below.refl _ _).alloc (Nat.le_refl _) _).alloc (by simp) _).alloc (by simp; omega) _).alloc (by simp; omega) _).alloc (by simp; omega) _
theorem w5_at (w : World) (x : Value) (v : Int) : (W5 w x v).heap[w.heap.size]? = some Kz ∧ (W5 w x v).heap[w.heap.size + 1]? = some Kz ∧ (W5 w x v).heap[w.heap.size + 1 + 1 + 1]? = some InF ∧ (W5 w x v).cell? ⟨w.heap.size + 1 + 1 + 1 + 1, 0, none⟩ = some (.int .i64 v) := by
  refine ⟨?_, ?_, ?_, ?_⟩
  · rw [Below.heap_alloc _ _ _ (by first | (simp; done) | (simp; omega)), Below.heap_alloc _ _ _ (by first | (simp; done) | (simp; omega)), Below.heap_alloc _ _ _ (by first | (simp; done) | (simp; omega)), Below.heap_alloc _ _ _ (by first | (simp; done) | (simp; omega))]
    exact (MapKept.heap_alloc w _).1
  · rw [Below.heap_alloc _ _ _ (by first | (simp; done) | (simp; omega)), Below.heap_alloc _ _ _ (by first | (simp; done) | (simp; omega)), Below.heap_alloc _ _ _ (by first | (simp; done) | (simp; omega))]
    have h := (MapKept.heap_alloc (w.alloc Kz) Kz).1
    rw [show (w.alloc Kz).heap.size = w.heap.size + 1 by simp] at h
    exact h
  · rw [Below.heap_alloc _ _ _ (by simp)]
    have h := (MapKept.heap_alloc (W3 w x) InF).1
    rw [w3_size] at h
    exact h
  · have h := (MapKept.heap_alloc (W4 w x) (.cells #[.int .i64 v] 3)).1
    rw [w4_size] at h
    exact (blkS_cell h 0).trans rfl
theorem w4_conv (w : World) (x : Value) : (convert 22 22 (.slice (some ⟨w.heap.size + 1 + 1 + 1, 0, none⟩) 7 7)).run Try.prog ((W3 w x).alloc (.cells #[.int .u8 105, .int .u8 110, .int .u8 105, .int .u8 116, .int .u8 105, .int .u8 97, .int .u8 108] 5)) = .ok (.slice (some ⟨w.heap.size + 1 + 1 + 1, 0, none⟩) 7 7) (W4 w x) := by
  have h := kconst (W3 w x) #[.int .u8 105, .int .u8 110, .int .u8 105, .int .u8 116, .int .u8 105, .int .u8 97, .int .u8 108] 7 7
  rw [w3_size] at h
  exact h

abbrev set4 (w : World) (g : Nat) (u0 u1 u2 u3 : Value) : World := (((w.setCell ⟨g, 0, none⟩ u0).setCell ⟨g, 1, none⟩ u1).setCell ⟨g, 2, none⟩ u2).setCell ⟨g, 3, none⟩ u3
theorem set4_heap {w : World} {g : Nat} {u0 u1 u2 u3 : Value} (h : w.heap[g]? = some Kz) : (set4 w g u0 u1 u2 u3).heap[g]? = some (.cells #[u0, u1, u2, u3] 24 (0, 0)) := by
  rw [bk_set (bk_set (bk_set (bk_set h 0 _) 1 _) 2 _) 3 _]
  rfl
theorem set4_only (w : World) (g : Nat) (u0 u1 u2 u3 : Value) : Only (some g) w (set4 w g u0 u1 u2 u3) :=
  (((Only.setCell ⟨g, 0, none⟩ u0).trans (Only.setCell ⟨g, 1, none⟩ u1)).trans (Only.setCell ⟨g, 2, none⟩ u2)).trans (Only.setCell ⟨g, 3, none⟩ u3)
set_option maxRecDepth 20000 in
set_option maxHeartbeats 4000000 in
theorem ikI_ok (v : Int) (vc : Value) (cid : List Int) (w : World) (hv : vok v) (hr : Row w .u8 vc cid) (hB : Bytes cid) (hl : cid.length ≤ 8) :
    Calls Try.prog 6 #[.int .i64 v, vc] w (IkPost w (ikC v cid) (ikD v cid)) := by
  obtain ⟨ao, cap, rfl⟩ := hr.form
  obtain ⟨n, en⟩ : ∃ n, n = cid.length := ⟨_, rfl⟩
  rw [← en] at hl hr ⊢
  have hv1 := hv.1
  have hv2 := hv.2
  have kc := w4_conv w (.slice ao n cap)
  have B2 : Below w.heap.size w ((w.alloc Kz).alloc Kz) := ((Below.refl _ _).alloc (Nat.le_refl _) _).alloc (by simp) _
  have HP := icids _ [cid] _ (parts1 (hr.below B2) 22) (by simp) (cids1_len cid (by omega))
  rw [cids1 n cid en.symm, decide_eq_true hl, show ((w.alloc Kz).alloc Kz).heap.size = w.heap.size + 1 + 1 by simp] at HP
  have hdl : (ikB v cid).length = 16 := digV_length _ _
  have hdb : Bytes (ikB v cid) := digV_bytes _ _
  have PF := putFixed1 (w.heap.size + 1 + 1 + 1) 0 7 inK v (w.heap.size + 1 + 1 + 1 + 1) (W5 w (.slice ao n cap) v) rfl (inK_row (w5_at w _ v).2.2.1) (by decide) (by decide) (by omega) (by omega) (w5_at w _ v).2.2.2
  have HH : Hid _ := And.intro (iVok v ((w.alloc Kz).alloc Kz) hv) (And.intro hr (And.intro en (And.intro hB (And.intro hdl (And.intro hdb (And.intro HP PF))))))
  clear hv hr en hB hdl hdb HP PF B2
  go_enter Try.func6, Try.ntmps6
  go_wp2_with (first
    | (go_at_call 17; refine HH.out.1.mono ?_; rintro e w' ⟨rfl, hw⟩; subst w')
    | (go_at_call 18; refine HH.out.2.2.2.2.2.2.1.mono ?_; rintro e w' ⟨rfl, hw⟩; subst w')
    | (go_at_call 20; refine HH.out.2.2.2.2.2.2.2.mono ?_; rintro e w1 ⟨r1, rfl, o1, b1⟩; have H1 : Hid _ := And.intro (row_of_owns o1) b1; clear o1 b1)
    | (go_at_call 19; refine (iparts _ _ (inK ++ be v 4) [cid] _ (H1.out.1.below ((Below.refl _ _).alloc (Nat.le_refl _) _)) (bytes_app inK_bytes (be_bytes v 4)) (by simp [inK, be_length]) (parts1 ((HH.out.2.1.below (w5_below w _ v)).below H1.out.2) _) (bytes_getD1 HH.out.2.2.2.1) (by simp; rw [← HH.out.2.2.1]; omega) (by simp)).mono ?_; rintro e w2 ⟨rfl, b2⟩; have H2 : Hid _ := And.intro (H1.out.2.trans (((Below.refl _ _).alloc (Nat.le_refl _) _).trans (b2.mono (by simp)) |>.mono H1.out.2.size)) True.intro; clear b2)
    | (refine wpList_store_at rfl 40 (.tmp 6) (.tmp 25) rfl w2.heap.size _ rfl rfl 40 _ (MapKept.heap_alloc w2 _).1 (infoBs _ (digV_length _ _)) (by simp [u8s_length, digV_length]) (u8s_all _) ?_; intro w3 h3 m3))
  have z2 : w2.heap.size < w3.heap.size := (Array.getElem?_eq_some_iff.1 h3).1
  have b3 : Below (W5 w (.slice ao n cap) v).heap.size (W5 w (.slice ao n cap) v) w3 := (H2.out.1.alloc H2.out.1.size _).trans (m3.below H2.out.1.size)
  have H3 : Hid _ := And.intro (show Row w3 .u8 (.slice (some ⟨w2.heap.size, 0, none⟩) 16 16) (ikB v cid) from row_full (e := 40) (xs := ikB v cid) (by first | exact h3 | simpa [ikB] using h3) HH.out.2.2.2.2.1 (by unfold maxLen; decide)) b3
  clear m3 h3 b3
  have tok1 : True := trivial
  have tok2 : True := trivial
  go_upto_region 4 with fail
  go_region_with (first
    | (go_at_call 22; have _t := tok1; refine (implDerive (.slice (some ⟨w2.heap.size, 0, none⟩) 16 16) (ikB v cid) lCin 16 w3.drew (H3.out.1.drewN 1) HH.out.2.2.2.2.2.1 (by rw [HH.out.2.2.2.2.1]; decide) (by decide)).mono ?_; rintro e w4 ⟨r4, rfl, o4, b4⟩; have H4 : Hid _ := And.intro (row_of_owns o4) (And.intro ((H3.out.1.drewN 1).below b4) b4); clear o4 b4 tok1)
    | (go_at_call 21; have _t := tok2; refine (implKeysOf r4 (derV (ikB v cid) lCin 16) w4 H4.out.1 (derV_bytes _ _ _) (by have := derV_length (ikB v cid) lCin 16; omega)).mono ?_; rintro e w5 ⟨r5, rfl, k5, b5⟩; obtain ⟨a0, a1, a2, a3, p0, p1, p2, p3, er⟩ := k5.parts; subst er; have H5 : Hid _ := And.intro k5 (And.intro (H4.out.2.1.below b5) (H4.out.2.2.trans (b5.mono H4.out.2.2.size))); clear k5 b5 tok2)
    | (go_at_call 22; refine (implDerive (.slice (some ⟨w2.heap.size, 0, none⟩) 16 16) (ikB v cid) lSin 16 w5 H5.out.2.1 HH.out.2.2.2.2.2.1 (by rw [HH.out.2.2.2.2.1]; decide) (by decide)).mono ?_; rintro e w6 ⟨r6, rfl, o6, b6⟩; have H6 : Hid _ := And.intro (row_of_owns o6) b6; clear o6 b6)
    | (go_at_call 21; refine (implKeysOf r6 (derV (ikB v cid) lSin 16) w6 H6.out.1 (derV_bytes _ _ _) (by have := derV_length (ikB v cid) lSin 16; omega)).mono ?_; rintro e w7 ⟨r7, rfl, k7, b7⟩; obtain ⟨c0, c1, c2, c3, q0, q1, q2, q3, er⟩ := k7.parts; subst er; have B7 : Below (W5 w (.slice ao n cap) v).heap.size (W5 w (.slice ao n cap) v) w7 := (below_drewN H3.out.2 1).trans ((H5.out.2.2.trans ((H6.out.2.trans (b7.mono H6.out.2.size)).mono H5.out.2.2.size)).mono (below_drewN H3.out.2 1).size); have e0 := (B7.block w.heap.size (by rw [w5_size]; omega)).trans (w5_at w _ v).1; have e1 := (B7.block (w.heap.size + 1) (by rw [w5_size]; omega)).trans (w5_at w _ v).2.1; have ca0 : w7.cell? ⟨w.heap.size, 0, none⟩ = some (.slice none 0 0) := (blkS_cell e0 0).trans rfl; have fa0 := bk_free e0 0; have cb0 : w7.cell? ⟨w.heap.size + 1, 0, none⟩ = some (.slice none 0 0) := (blkS_cell e1 0).trans rfl; have fb0 := bk_free e1 0; have ca1 : w7.cell? ⟨w.heap.size, 1, none⟩ = some (.slice none 0 0) := (blkS_cell e0 1).trans rfl; have fa1 := bk_free e0 1; have cb1 : w7.cell? ⟨w.heap.size + 1, 1, none⟩ = some (.slice none 0 0) := (blkS_cell e1 1).trans rfl; have fb1 := bk_free e1 1; have ca2 : w7.cell? ⟨w.heap.size, 2, none⟩ = some (.slice none 0 0) := (blkS_cell e0 2).trans rfl; have fa2 := bk_free e0 2; have cb2 : w7.cell? ⟨w.heap.size + 1, 2, none⟩ = some (.slice none 0 0) := (blkS_cell e1 2).trans rfl; have fb2 := bk_free e1 2; have ca3 : w7.cell? ⟨w.heap.size, 3, none⟩ = some (.slice none 0 0) := (blkS_cell e0 3).trans rfl; have fa3 := bk_free e0 3; have cb3 : w7.cell? ⟨w.heap.size + 1, 3, none⟩ = some (.slice none 0 0) := (blkS_cell e1 3).trans rfl; have fb3 := bk_free e1 3; have H7 : Hid _ := And.intro (k7.mono H6.out.2.size) (And.intro (H6.out.2.trans (b7.mono H6.out.2.size)) (And.intro e0 e1)); clear k7 b7 B7 e0 e1))
  all_goals
    clear ca0 ca1 ca2 ca3 cb0 cb1 cb2 cb3 fa0 fa1 fa2 fa3 fb0 fb1 fb2 fb3
    go_wp2_with fail
    try simp only [Exit.inBlock, Exit.then]
    refine bodyPost_ret (v := .tuple #[.agg #[.slice a0 (keysV (derV (ikB v cid) lCin 16)).a.length p0, .slice a1 (keysV (derV (ikB v cid) lCin 16)).b.length p1, .slice a2 (keysV (derV (ikB v cid) lCin 16)).c.length p2, .slice a3 (keysV (derV (ikB v cid) lCin 16)).d.length p3], .agg #[.slice c0 (keysV (derV (ikB v cid) lSin 16)).a.length q0, .slice c1 (keysV (derV (ikB v cid) lSin 16)).b.length q1, .slice c2 (keysV (derV (ikB v cid) lSin 16)).c.length q2, .slice c3 (keysV (derV (ikB v cid) lSin 16)).d.length q3]]) ?_ rfl ?_
    · exact results_two rfl _ _ w.heap.size (w.heap.size + 1) _ _ _ _ (0, 0) (0, 0) _ rfl rfl (((set4_only _ (w.heap.size + 1) _ _ _ _).block w.heap.size (fun e => by have := Option.some.inj e; omega)).trans (set4_heap H7.out.2.2.1)) (set4_heap (((set4_only _ w.heap.size _ _ _ _).block (w.heap.size + 1) (fun e => by have := Option.some.inj e; omega)).trans H7.out.2.2.2)) Try.underlying24 rfl infoKeys4 infoKeys4
    · have hs5 := H5.out.2.2.size
      have hs4 := H4.out.2.2.size
      have hs3 := (below_drewN H3.out.2 1).size
      have hw3 := w5_size w (.slice ao n cap) v
      have D : w3.drew.heap.size = w3.heap.size := rfl
      obtain ⟨x1, x2, x3, x4, x5, x6⟩ := ik_end ((w5_below w _ v).trans (((below_drewN H3.out.2 1).trans (H5.out.2.2.mono (below_drewN H3.out.2 1).size)).mono (w5_below w _ v).size)) (by have h3 : (W5 w (.slice ao n cap) v).heap.size ≤ w3.drew.heap.size := hs3; omega) (H5.out.1.mono (by have h3 : (W5 w (.slice ao n cap) v).heap.size ≤ w3.drew.heap.size := hs3; omega)) H7.out.2.1 H7.out.1 (set4_only _ w.heap.size _ _ _ _) (set4_only _ (w.heap.size + 1) _ _ _ _)
      exact ⟨_, _, w5.heap.size, rfl, x1, x2, x3, x4, x5, x6⟩

theorem fnExactInitialKeys_walk (a0 : Int) (v1 : Value) (x1 : List Int) (wf0 : (Lit.int .i64 a0).wf = true) (l1 : x1.length ≤ maxLen) (wf1 : ∀ x ∈ x1, (Lit.int .u8 x).wf = true) (w : World) (row1 : Row w .u8 v1 x1) :
    Calls Try.prog 3 #[.int .i64 a0, v1] w fun e w' => e = .returned (.bool true) ∧ Below w.heap.size w w' := by
  have m1 : x1.length ≤ 9223372036854775807 := by have h := l1; unfold maxLen at h; omega
  by_cases h : vok a0 ∧ x1.length ≤ 8
  · exact initialKeys_walkOf a0 v1 x1 (ikC a0 x1) (ikD a0 x1) w (fun _ => True) (fun _ _ => trivial) wf0 l1 wf1 row1 (small_mono (keysV_small _) (by decide)) (small_mono (keysV_small _) (by decide))
      (fun w u1 r1 => ikS_ok a0 u1 x1 w h.1 r1 (bytes_of_wf wf1) h.2) (fun w u1 _ r1 => ikI_ok a0 u1 x1 w h.1 r1 (bytes_of_wf wf1) h.2)
  · refine initialKeys_walkOf a0 v1 x1 kZero kZero w (fun _ => True) (fun _ _ => trivial) wf0 l1 wf1 row1 (by simp [K4.small, kZero]) (by simp [K4.small, kZero]) ?_ ?_
    · intro w u1 r1
      obtain ⟨ao, cp, rfl⟩ := r1.form
      exact ikS_bad a0 ao _ cp w h m1
    · intro w u1 _ r1
      obtain ⟨ao, cp, rfl⟩ := r1.form
      exact ikI_bad a0 ao _ cp x1 w r1 rfl h m1
end Go.Proofs.Ytjdmknlcjejecaa
