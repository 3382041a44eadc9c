import Derived.Test.YtjdmknlcjejecaaIBlock
namespace Go.Proofs.Ytjdmknlcjejecaa
open Go.RowKit
set_option linter.unusedVariables false

theorem infoS80 : (Try.prog.info? 49).map (·.size) = some 4 := by kernel_rfl
set_option maxHeartbeats 800000 in
theorem inew (w : World) : Calls Try.prog 26 #[] w fun e w' => e = .returned (.agg #[.int .u32 1779033703, .int .u32 3144134277, .int .u32 1013904242, .int .u32 2773480762]) ∧ Below w.heap.size w w' := by
  go_enter Try.func26, Try.ntmps26
  go_wp2
  refine bodyPost_ret (v := .agg #[.int .u32 1779033703, .int .u32 3144134277, .int .u32 1013904242, .int .u32 2773480762]) (by simp [results, Try.results26, go_sem]) rfl ⟨rfl, ?_⟩
  exact (Below.refl _ _).alloc (Nat.le_refl _) _

/-- digestParts' own blocks: the answer's room, the state. -/
structure DP (w wx : World) (g : Nat) (s : S4) : Prop where
  blk : wx.heap[g]? = some (.cells #[.int .u32 s.a, .int .u32 s.b, .int .u32 s.c, .int .u32 s.d] 49 (0, 0))
  res : wx.heap[w.heap.size]? = some (.cells (u8s (List.replicate 16 0)).toArray 40 (0, 0))
  bel : Below w.heap.size w wx
  lt : w.heap.size < g
theorem DP.step {w wx wy : World} {g : Nat} {s t : S4} (h : DP w wx g s) (k : StC g wx wy t) : DP w wy g t := by
  have hg : g < wx.heap.size := (Array.getElem?_eq_some_iff.1 h.blk).1
  have hr : w.heap.size < wx.heap.size := (Array.getElem?_eq_some_iff.1 h.res).1
  exact ⟨k.blk, (k.chg.block _ hr (by have := h.lt; omega)).trans h.res, h.bel.trans (k.chg.below h.bel.size (fun i e => by have := h.lt; omega)), h.lt⟩
set_option maxRecDepth 20000 in
set_option maxHeartbeats 4000000 in
theorem iparts (vk vp : Value) (ks : List Int) (L : List (List Int)) (w : World) (rk : Row w .u8 vk ks) (bk : Bytes ks) (lk : ks.length ≤ 4611686018427387903) (hp : Parts w vp L) (bp : ∀ j, Bytes (L.getD j [])) (lp : L.flatten.length ≤ 4611686018427387903) (lL : L.length ≤ 1000) :
    Calls Try.prog 19 #[vk, vp] w fun e w' => e = .returned (.agg (u8s (digV ks L.flatten)).toArray) ∧ Below w.heap.size w w' := by
  obtain ⟨p, capp, rfl, hpl, hpc⟩ := hp.at'
  obtain ⟨aok, capk, rfl⟩ := rk.form
  obtain ⟨n, en⟩ : ∃ n, n = ks.length := ⟨_, rfl⟩
  obtain ⟨m, em⟩ : ∃ m, m = L.length := ⟨_, rfl⟩
  have HH : Hid _ := And.intro rk (And.intro bk (And.intro en (And.intro em (And.intro bp (And.intro lp (And.intro hpc hpl))))))
  rw [← en] at lk ⊢
  rw [← em] at lL ⊢
  clear rk bk en em hp bp lp hpc
  go_enter Try.func19, Try.ntmps19
  go_wp2_with fail
  go_at_call 26
  refine (inew _).mono ?_
  rintro e w1 ⟨rfl, b1⟩
  obtain ⟨g, eg⟩ : ∃ g, g = w1.heap.size := ⟨_, rfl⟩
  have hgl : w.heap.size < g := by have := b1.size; simp at this; omega
  have D0 : Hid (DP w (w1.alloc (.cells #[.int .u32 1779033703, .int .u32 3144134277, .int .u32 1013904242, .int .u32 2773480762] 49 (0, 0))) g dig0) := by
    have hb : Below (w.alloc (.cells (u8s (List.replicate 16 0)).toArray 40 (0, 0))).heap.size (w.alloc (.cells (u8s (List.replicate 16 0)).toArray 40 (0, 0))) w1 := b1
    refine ⟨by rw [eg]; exact (MapKept.heap_alloc w1 _).1, ?_, ?_, hgl⟩
    · rw [Below.heap_alloc w1 _ _ (by omega), hb.block _ (by simp)]
      exact (MapKept.heap_alloc w _).1
    · exact ((((Below.refl _ _).alloc (Nat.le_refl _) _).trans (hb.mono (by simp))).alloc (by omega) _)
  have EG : Hid _ := And.intro eg b1
  clear b1
  go_wp2_with fail
  go_at_call 27
  rw [← eg]
  refine (istirCount g dig0 dig0_ok n (by omega) _ D0.out.blk).mono ?_
  rintro e w2 ⟨⟨r2, rfl⟩, st⟩
  have k2 := stirL_ok dig0 (be (n : Int) 4) dig0_ok
  have H2 : Hid _ := And.intro (D0.out.step st) (And.intro k2 (show stirL dig0 (be (n : Int) 4) = stirL dig0 (be (ks.length : Int) 4) by rw [HH.out.2.2.1]))
  generalize stirL dig0 (be (n : Int) 4) = s2 at H2
  clear st k2 D0 EG eg
  go_wp2_with fail
  go_at_call 28
  refine (istirAll g s2 H2.out.2.1 _ ks w2 (by rw [HH.out.2.2.1]; exact HH.out.1.below H2.out.1.bel) HH.out.2.1 (by have := HH.out.2.2.1; omega) H2.out.1.blk).mono ?_
  rintro e w3 ⟨⟨r3, rfl⟩, st⟩
  have k3 := stirL_ok s2 ks H2.out.2.1
  have H3 : Hid _ := And.intro (H2.out.1.step st.toC) (And.intro k3 (show stirL s2 ks = stirL (stirL dig0 (be (ks.length : Int) 4)) ks by rw [H2.out.2.2]))
  generalize stirL s2 ks = s3 at H3
  clear st k3 H2
  go_wp2_with fail
  go_loopw [17, 6] (fun i c wr => ∃ k : Nat, k ≤ m ∧ i = .int .i64 (k : Int) ∧ c = .int .i64 (((L.take k).flatten.length : Nat) : Int) ∧ DP w wr g (stirL s3 (L.take k).flatten)) (fun i _ _ => m - (intOf i).toNat)
  case atStart => exact ⟨0, by omega, rfl, by simp, by simpa [stirL] using H3.out.1⟩
  case round =>
    obtain ⟨k, hk, rfl, rfl, st⟩ := hrel
    by_cases hlt : k < m
    · obtain ⟨v, hv, hr⟩ := HH.out.2.2.2.2.2.2.1 k (by have := HH.out.2.2.2.1; omega)
      have cv := (st.bel.cell (p := ⟨p, k, none⟩) hpl).trans hv
      have ft := flat_take L k (by have := HH.out.2.2.2.1; omega)
      have fl : (L.take (k + 1)).flatten.length = (L.take k).flatten.length + (L.getD k []).length := by rw [ft, List.length_append]
      have fb : (L.take (k + 1)).flatten.length ≤ L.flatten.length := by
        conv => rhs; rw [← List.take_append_drop (k + 1) L]
        rw [List.flatten_append, List.length_append]
        omega
      have lp := HH.out.2.2.2.2.2.1
      obtain ⟨av, cpv, rfl⟩ := hr.form
      have hlx : (L.getD k []).length ≤ 4611686018427387903 := by omega
      have es : stirL s3 (L.take (k + 1)).flatten = stirL (stirL s3 (L.take k).flatten) (L.getD k []) := by rw [ft, stirL_append]
      have H4 : Hid _ := And.intro (hr.below st.bel) (And.intro (HH.out.2.2.2.2.1 k) (And.intro st (And.intro (stirL_ok s3 (L.take k).flatten H3.out.2.1) (And.intro es fl))))
      have hsum : (L.take k).flatten.length + (L.getD k []).length ≤ 4611686018427387903 := by omega
      clear hv hr ft fl fb lp st es
      generalize L.getD k [] = xs at cv H4 hlx hsum
      obtain ⟨nx, enx⟩ : ∃ q, q = xs.length := ⟨_, rfl⟩
      obtain ⟨nt, ent⟩ : ∃ q, q = (L.take k).flatten.length := ⟨_, rfl⟩
      rw [← enx] at cv hlx hsum
      rw [← ent] at hsum ⊢
      have EN : Hid _ := And.intro enx ent
      clear enx ent
      go_wp2_with fail
      go_at_call 28
      refine (istirAll g _ H4.out.2.2.2.1 _ xs wr (by rw [EN.out.1]; exact H4.out.1) H4.out.2.1 (by rw [← EN.out.1]; exact hlx) H4.out.2.2.1.blk).mono ?_
      rintro e w4 ⟨⟨r4, rfl⟩, st4⟩
      have H5 : Hid _ := And.intro (H4.out.2.2.1.step st4.toC) True.intro
      clear st4 cv
      go_wp2
      go_roundw
      case rel =>
        refine ⟨k + 1, by omega, by go_num, ?_, ?_⟩
        · rw [H4.out.2.2.2.2.2, ← EN.out.1, ← EN.out.2]; simp
        · rw [H4.out.2.2.2.2.1]; exact H5.out.1
      case measure => simp [intOf]; omega
    · obtain rfl : k = m := by omega
      have el : L.take k = L := List.take_of_length_le (by have := HH.out.2.2.2.1; omega)
      rw [el] at st
      rw [el]
      have k4 := stirL_ok s3 L.flatten H3.out.2.1
      have H4 : Hid _ := And.intro st (And.intro k4 (show stirL s3 L.flatten = stirL (stirL (stirL dig0 (be (ks.length : Int) 4)) ks) L.flatten by rw [H3.out.2.2]))
      generalize stirL s3 L.flatten = s4 at H4
      clear st k4
      have lp := HH.out.2.2.2.2.2.1
      obtain ⟨nt, ent⟩ : ∃ q, q = L.flatten.length := ⟨_, rfl⟩
      rw [← ent] at lp ⊢
      have EN : Hid _ := And.intro ent True.intro
      clear ent
      go_wp2_with fail
      go_at_call 27
      refine (istirCount g s4 H4.out.2.1 nt lp _ H4.out.1.blk).mono ?_
      rintro e w5 ⟨⟨r5, rfl⟩, st5⟩
      have k5 := stirL_ok s4 (be (nt : Int) 4) H4.out.2.1
      have H5 : Hid _ := And.intro (H4.out.1.step st5) (And.intro k5 (show stirL s4 (be (nt : Int) 4) = stirL (stirL (stirL (stirL dig0 (be (ks.length : Int) 4)) ks) L.flatten) (be (L.flatten.length : Int) 4) by rw [H4.out.2.2, EN.out.1]))
      generalize stirL s4 (be (nt : Int) 4) = s5 at H5
      clear st5 k5 H4
      go_wp2_with fail
      go_loopw [30] (fun i wr => ∃ k : Nat, k ≤ 16 ∧ i = .int .i64 (k : Int) ∧ DP w wr g (stirL s5 (List.replicate k 165))) (fun i _ => 16 - (intOf i).toNat)
      case atStart => exact ⟨0, by omega, rfl, H5.out.1⟩
      case round =>
        obtain ⟨j, hj, rfl, st⟩ := hrel
        by_cases hlt2 : j < 16
        · have es : stirL s5 (List.replicate (j + 1) 165) = stir1 (stirL s5 (List.replicate j 165)) 165 := by rw [List.replicate_succ', stirL_append]; rfl
          have H6 : Hid _ := And.intro st (And.intro (stirL_ok s5 (List.replicate j 165) H5.out.2.1) es)
          clear st es
          go_wp2_with fail
          go_at_call 29
          refine (istir g _ H6.out.2.1 165 (by decide) (by decide) wr H6.out.1.blk).mono ?_
          rintro e w6 ⟨⟨r6, rfl⟩, st6⟩
          have H7 : Hid _ := And.intro (H6.out.1.step st6.toC) True.intro
          clear st6
          go_wp2
          go_roundw
          case rel => exact ⟨j + 1, by omega, by go_num, by rw [H6.out.2.2]; exact H7.out.1⟩
          case measure => simp [intOf]; omega
        · obtain rfl : j = 16 := by omega
          have k6 := stirL_ok s5 (List.replicate 16 165) H5.out.2.1
          have H6 : Hid _ := And.intro st (And.intro k6 (show stirL s5 (List.replicate 16 165) = digS ks L.flatten by rw [H5.out.2.2]; rfl))
          generalize stirL s5 (List.replicate 16 165) = s6 at H6
          clear st k6
          go_wp2_with fail
          go_at_call 30
          refine (iblock g s6 H6.out.2.1 wr H6.out.1.blk).mono ?_
          rintro e w7 ⟨rfl, b7⟩
          have hrz : w.heap.size < wr.heap.size := (Array.getElem?_eq_some_iff.1 H6.out.1.res).1
          have H7 : Hid _ := And.intro ((b7.block _ hrz).trans H6.out.1.res) (H6.out.1.bel.trans (b7.mono H6.out.1.bel.size))
          clear b7 hrz
          go_wp2_with (refine wpList_store_at rfl 40 (.tmp 4) (.tmp 34) rfl w.heap.size _ rfl rfl 40 (u8s (List.replicate 16 0)).toArray H7.out.1 (infoBs _ (byts_length s6)) (by simp [u8s_length, byts_length]) (u8s_all _) ?_; intro w8 h8 n8)
          try simp only [Exit.inBlock, Exit.then]
          refine bodyPost_ret (v := .agg (u8s s6.byts).toArray) ?_ rfl ?_
          · exact results_cell_row (t := 40) rfl _ _ w.heap.size _ (fr := (0, 0)) _ rfl h8 Try.underlying40 rfl (infoBs _ (byts_length s6))
          · exact ⟨by rw [H6.out.2.2, byts_digV], H7.out.2.trans (n8.below (Nat.le_refl _))⟩
end Go.Proofs.Ytjdmknlcjejecaa
