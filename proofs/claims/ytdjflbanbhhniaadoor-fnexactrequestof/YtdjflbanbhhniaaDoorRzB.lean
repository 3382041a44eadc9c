import Derived.Test.YtdjflbanbhhniaaDoorRzA
import Derived.Test.YtdjflbanbhhniaaDoorQpB
import Derived.Deep.CutRange
namespace Go.Proofs.YtdjflbanbhhniaaDoor
open Go.RowKit
set_option linter.unusedVariables false

set_option maxRecDepth 20000 in
set_option maxHeartbeats 16000000 in
theorem rzS (v : Value) (base : Nat) (L : List SField) (w : World) (ow : GOwns 44 2 w base v (SField.L L)) (hR : L.length ≤ 1048576) (hf : fin L) :
    Calls Tryd.prog 15 #[v] w fun e w' => ∃ r, e = .returned (.tuple #[qV (rzR L).q.m (rzR L).q.s (rzR L).q.a (rzR L).q.p r, .int .i64 (rzR L).code]) ∧ GOwns 44 2 w' w.heap.size r (SField.L (rzR L).fs) ∧ Below w.heap.size w w' := by
  have h := ow.row
  have b1 : Below w.heap.size w (w.alloc (.cells #[.string ⟨#[]⟩, .string ⟨#[]⟩, .string ⟨#[]⟩, .string ⟨#[]⟩, .slice none 0 0] 30)) := (Below.refl _ _).alloc (Nat.le_refl _) _
  have HW : Hid (QB (w.alloc (.cells #[.string ⟨#[]⟩, .string ⟨#[]⟩, .string ⟨#[]⟩, .string ⟨#[]⟩, .slice none 0 0] 30)) w.heap.size q0 (.slice none 0 0) ∧ Below w.heap.size w (w.alloc (.cells #[.string ⟨#[]⟩, .string ⟨#[]⟩, .string ⟨#[]⟩, .string ⟨#[]⟩, .slice none 0 0] 30))) := And.intro (heap_alloc_new _ _) b1
  have CH := headsS v L (w.alloc (.cells #[.string ⟨#[]⟩, .string ⟨#[]⟩, .string ⟨#[]⟩, .string ⟨#[]⟩, .slice none 0 0] 30)) (h.below b1) hR hf
  unfold qV
  by_cases h64 : 64 < L.length
  · rw [show rzR L = ⟨q0, [], 4⟩ by unfold rzR; rw [if_pos h64]]
    obtain ⟨ao, cp, rfl⟩ := frow_form h
    have h3 : (64 : Int) < (L.length : Int) := by omega
    obtain ⟨n, en⟩ : ∃ n, n = L.length := ⟨_, rfl⟩
    rw [← en] at h3 ⊢
    clear CH h ow hR hf h64 en b1
    simp only
    go_enter Tryd.func15, Tryd.ntmps15
    go_wp2
    try simp only [Exit.inBlock, Exit.then]
    refine bodyPost_ret (v := .tuple #[.agg #[.string ⟨#[]⟩, .string ⟨#[]⟩, .string ⟨#[]⟩, .string ⟨#[]⟩, .slice none 0 0], .int .i64 4]) ?_ rfl ?_
    · exact results_rtZ (ty := 30) rfl _ _ w.heap.size 30 _ (0, 0) _ _ rfl rfl HW.out.1 Tryd.underlying30 rfl infoReqQ
    · exact ⟨_, rfl, gown_nilR _ _, HW.out.2⟩
  have hR0 : rzR L = match qAt L (hdN L) with
      | none => ⟨q0, [], 17⟩
      | some q => if rqOK q.m q.s q.a q.p (L.drop (hdN L)) = true then ⟨q, L.drop (hdN L), 0⟩ else ⟨q0, [], 17⟩ := by unfold rzR; rw [if_neg h64]; cases qAt L (hdN L) <;> rfl
  have h3 : ¬ ((64 : Int) < (L.length : Int)) := by omega
  have b2 : Below w.heap.size w ((w.alloc (.cells #[.string ⟨#[]⟩, .string ⟨#[]⟩, .string ⟨#[]⟩, .string ⟨#[]⟩, .slice none 0 0] 30)).alloc (.cells #[.string ⟨#[]⟩, .string ⟨#[]⟩, .string ⟨#[]⟩, .string ⟨#[]⟩, .slice none 0 0] 30)) := b1.alloc (by simp) _
  have k2 : QB ((w.alloc (.cells #[.string ⟨#[]⟩, .string ⟨#[]⟩, .string ⟨#[]⟩, .string ⟨#[]⟩, .slice none 0 0] 30)).alloc (.cells #[.string ⟨#[]⟩, .string ⟨#[]⟩, .string ⟨#[]⟩, .string ⟨#[]⟩, .slice none 0 0] 30)) w.heap.size q0 (.slice none 0 0) := (((Below.refl (w.alloc (.cells #[.string ⟨#[]⟩, .string ⟨#[]⟩, .string ⟨#[]⟩, .string ⟨#[]⟩, .slice none 0 0] 30)).heap.size (w.alloc (.cells #[.string ⟨#[]⟩, .string ⟨#[]⟩, .string ⟨#[]⟩, .string ⟨#[]⟩, .slice none 0 0] 30))).alloc (Nat.le_refl _) (.cells #[.string ⟨#[]⟩, .string ⟨#[]⟩, .string ⟨#[]⟩, .string ⟨#[]⟩, .slice none 0 0] 30)).block _ (by simp)).trans (heap_alloc_new w (.cells #[.string ⟨#[]⟩, .string ⟨#[]⟩, .string ⟨#[]⟩, .string ⟨#[]⟩, .slice none 0 0] 30))
  have j2 : QB ((w.alloc (.cells #[.string ⟨#[]⟩, .string ⟨#[]⟩, .string ⟨#[]⟩, .string ⟨#[]⟩, .slice none 0 0] 30)).alloc (.cells #[.string ⟨#[]⟩, .string ⟨#[]⟩, .string ⟨#[]⟩, .string ⟨#[]⟩, .slice none 0 0] 30)) (w.heap.size + 1) q0 (.slice none 0 0) := by
    have q := heap_alloc_new (w.alloc (.cells #[.string ⟨#[]⟩, .string ⟨#[]⟩, .string ⟨#[]⟩, .string ⟨#[]⟩, .slice none 0 0] 30)) (.cells #[.string ⟨#[]⟩, .string ⟨#[]⟩, .string ⟨#[]⟩, .string ⟨#[]⟩, .slice none 0 0] 30)
    rw [show (w.alloc (.cells #[.string ⟨#[]⟩, .string ⟨#[]⟩, .string ⟨#[]⟩, .string ⟨#[]⟩, .slice none 0 0] 30)).heap.size = w.heap.size + 1 by simp] at q
    exact q
  have HL := hd_le L
  obtain ⟨N, eN⟩ : ∃ N, N = hdN L := ⟨_, rfl⟩
  rw [← eN] at CH hR0 HL
  have HC : Hid _ := And.intro CH (And.intro hR0 (And.intro ow (And.intro h (And.intro hf (And.intro HL hR)))))
  have HJ : Hid _ := And.intro k2 (And.intro j2 b2)
  obtain ⟨ao, cp, rfl⟩ := frow_form h
  obtain ⟨n, en⟩ : ∃ n, n = L.length := ⟨_, rfl⟩
  rw [← en] at h3 HC ⊢
  have HN : Hid _ := en
  have hN : N ≤ 64 := by omega
  clear CH hR0 ow h hf HL hR h64 b1 b2 k2 j2 eN en
  go_enter Tryd.func15, Tryd.ntmps15
  go_wp2_with fail
  go_at_call 25
  refine HC.out.1.mono ?_
  rintro e w1 ⟨rfl, rfl⟩
  go_wp2_with fail
  go_loopw [6] (fun i wr => ∃ (k : Nat) (q : Q4), k ≤ N ∧ i = .int .i64 (k : Int) ∧ qAt L k = some q ∧ QB wr w.heap.size q0 (.slice none 0 0) ∧ QB wr (w.heap.size + 1) q (.slice none 0 0) ∧ Below w.heap.size w wr) (fun i _ => N - (intOf i).toNat)
  case atStart => exact ⟨0, q0, by omega, rfl, rfl, HJ.out.1, HJ.out.2.1, HJ.out.2.2⟩
  case round =>
    obtain ⟨k, q, hk, rfl, hq, kr, kq, br⟩ := hrel
    by_cases hlt : k < N
    · have hkL : k < L.length := by have := HC.out.2.2.2.2.2.1; have := HN.out; omega
      have hlt' : (k : Int) < (N : Int) := by omega
      have hkn : (k : Int) < (n : Int) := by have := HN.out; omega
      obtain ⟨b, off, cap, ev, hb, hc⟩ := frow_at HC.out.2.2.2.1 (by omega)
      rw [← HN.out] at ev
      simp only [Value.slice.injEq] at ev
      obtain ⟨rfl, em2, rfl⟩ := ev
      clear em2
      obtain ⟨c0, c1⟩ := row_field hc k hkL
      have C0 := (br.cell (p := ⟨b, off + k * 2, none⟩) hb).trans c0
      have C1 := (br.cell (p := ⟨b, off + k * 2 + 1, none⟩) hb).trans c1
      have hb' : b ≠ w.heap.size + 1 := by omega
      have hS := qAt_succ hq
      have HBad : Hid (qAt L (k + 1) = none → rzR L = ⟨q0, [], 17⟩) := fun e => by rw [HC.out.2.1, qAt_none L (k + 1) e N (by omega)]
      obtain ⟨F, eF⟩ : ∃ F, F = L.getD k default := ⟨_, rfl⟩
      rw [← eF] at C0 C1 hS
      clear eF hc c0 c1 hkL
      obtain ⟨x, c⟩ := F
      simp only at C0 C1
      obtain ⟨y0, y1, y2, y3, y4⟩ := kq.cel
      obtain ⟨z0, z1, z2, z3, z4⟩ := kq.free
      obtain ⟨e0, e1, e2, e3, e4⟩ := kr.cel
      obtain ⟨g0, g1, g2, g3, g4⟩ := kr.free
      obtain ⟨qm, qs, qa, qp⟩ := q
      simp only at y0 y1 y2 y3
      have HK : Hid _ := And.intro kr (And.intro kq br)
      have HS : Hid _ := hS
      clear hq kr kq br hS hb
      cases hm : (x == mtN) with
      | true =>
        have tm : (x.toList == [58, 109, 101, 116, 104, 111, 100]) = true := tl_litQ x _ _ hm
        by_cases ho : qm.size = 0
        · have ho2 := empTz qm ho
          by_cases hz : c.size = 0
          · have hz2 := empTz c hz
            have HF : Hid (rzR L = ⟨q0, [], 17⟩) := HBad.out (by rw [HS.out]; simp [qStep, hz])
            have HR : Hid _ := And.intro (QB.other (k := w.heap.size + 1) (i := 0) (v := .string c) HK.out.1 (by omega)) (HK.out.2.2.setCell (p := ⟨w.heap.size + 1, 0, none⟩) (by show w.heap.size ≤ w.heap.size + 1; omega) (.string c))
            clear ho hz hm 
            go_wp2
            try simp only [Exit.inBlock, Exit.then]
            rw [HF.out]
            refine bodyPost_ret (v := .tuple #[.agg #[.string ⟨#[]⟩, .string ⟨#[]⟩, .string ⟨#[]⟩, .string ⟨#[]⟩, .slice none 0 0], .int .i64 17]) ?_ rfl ?_
            · exact results_rtZ (ty := 30) rfl _ _ w.heap.size 30 _ (0, 0) _ _ rfl rfl (QB.all (q' := q0) (r' := .slice none 0 0) HR.out.1) Tryd.underlying30 rfl infoReqQ
            · exact ⟨_, rfl, gown_nilR _ _, below5 HR.out.2 (Nat.le_refl _) _ _ _ _ _⟩
          · have hz2 := empFz c hz
            have HF : Hid (qAt L (k + 1) = some ⟨c, qs, qa, qp⟩) := by show qAt L (k + 1) = _; rw [HS.out]; simp only [qStep, hz, hm, ho, if_true, if_false]
            have HR : Hid _ := And.intro (QB.other (k := w.heap.size + 1) (i := 0) (v := .string c) HK.out.1 (by omega)) (And.intro (HK.out.2.1.set0 c) (HK.out.2.2.setCell (p := ⟨w.heap.size + 1, 0, none⟩) (by show w.heap.size ≤ w.heap.size + 1; omega) (.string c)))
            clear ho hz hm 
            go_wp2
            go_roundw
            case rel => exact ⟨k + 1, ⟨c, qs, qa, qp⟩, by omega, by go_num, HF.out, HR.out.1, HR.out.2.1, HR.out.2.2⟩
            case measure => simp [intOf]; omega
        · have ho2 := empFz qm ho
          have HF : Hid (rzR L = ⟨q0, [], 17⟩) := HBad.out (by rw [HS.out]; simp only [qStep, hm, ho, if_true, if_false]; split <;> rfl)
          have HR : Hid _ := And.intro (QB.other (k := w.heap.size + 1) (i := 0) (v := .string c) HK.out.1 (by omega)) (HK.out.2.2.setCell (p := ⟨w.heap.size + 1, 0, none⟩) (by show w.heap.size ≤ w.heap.size + 1; omega) (.string c))
          clear ho hm 
          go_wp2
          try simp only [Exit.inBlock, Exit.then]
          rw [HF.out]
          refine bodyPost_ret (v := .tuple #[.agg #[.string ⟨#[]⟩, .string ⟨#[]⟩, .string ⟨#[]⟩, .string ⟨#[]⟩, .slice none 0 0], .int .i64 17]) ?_ rfl ?_
          · exact results_rtZ (ty := 30) rfl _ _ w.heap.size 30 _ (0, 0) _ _ rfl rfl (QB.all (q' := q0) (r' := .slice none 0 0) HR.out.1) Tryd.underlying30 rfl infoReqQ
          · exact ⟨_, rfl, gown_nilR _ _, below5 HR.out.2 (Nat.le_refl _) _ _ _ _ _⟩
      | false =>
      have tm : (x.toList == [58, 109, 101, 116, 104, 111, 100]) = false := tl_litQ x _ _ hm
      cases hs : (x == scN) with
      | true =>
        have ts : (x.toList == [58, 115, 99, 104, 101, 109, 101]) = true := tl_litQ x _ _ hs
        by_cases ho : qs.size = 0
        · have ho2 := empTz qs ho
          by_cases hz : c.size = 0
          · have hz2 := empTz c hz
            have HF : Hid (rzR L = ⟨q0, [], 17⟩) := HBad.out (by rw [HS.out]; simp [qStep, hz])
            have HR : Hid _ := And.intro (QB.other (k := w.heap.size + 1) (i := 1) (v := .string c) HK.out.1 (by omega)) (HK.out.2.2.setCell (p := ⟨w.heap.size + 1, 1, none⟩) (by show w.heap.size ≤ w.heap.size + 1; omega) (.string c))
            clear ho hz hs hm
            go_wp2
            try simp only [Exit.inBlock, Exit.then]
            rw [HF.out]
            refine bodyPost_ret (v := .tuple #[.agg #[.string ⟨#[]⟩, .string ⟨#[]⟩, .string ⟨#[]⟩, .string ⟨#[]⟩, .slice none 0 0], .int .i64 17]) ?_ rfl ?_
            · exact results_rtZ (ty := 30) rfl _ _ w.heap.size 30 _ (0, 0) _ _ rfl rfl (QB.all (q' := q0) (r' := .slice none 0 0) HR.out.1) Tryd.underlying30 rfl infoReqQ
            · exact ⟨_, rfl, gown_nilR _ _, below5 HR.out.2 (Nat.le_refl _) _ _ _ _ _⟩
          · have hz2 := empFz c hz
            have HF : Hid (qAt L (k + 1) = some ⟨qm, c, qa, qp⟩) := by show qAt L (k + 1) = _; rw [HS.out]; simp only [qStep, hz, hs, hm, ho, if_true, if_false, Bool.false_eq_true]
            have HR : Hid _ := And.intro (QB.other (k := w.heap.size + 1) (i := 1) (v := .string c) HK.out.1 (by omega)) (And.intro (HK.out.2.1.set1 c) (HK.out.2.2.setCell (p := ⟨w.heap.size + 1, 1, none⟩) (by show w.heap.size ≤ w.heap.size + 1; omega) (.string c)))
            clear ho hz hs hm
            go_wp2
            go_roundw
            case rel => exact ⟨k + 1, ⟨qm, c, qa, qp⟩, by omega, by go_num, HF.out, HR.out.1, HR.out.2.1, HR.out.2.2⟩
            case measure => simp [intOf]; omega
        · have ho2 := empFz qs ho
          have HF : Hid (rzR L = ⟨q0, [], 17⟩) := HBad.out (by rw [HS.out]; simp only [qStep, hs, hm, ho, if_true, if_false, Bool.false_eq_true]; split <;> rfl)
          have HR : Hid _ := And.intro (QB.other (k := w.heap.size + 1) (i := 1) (v := .string c) HK.out.1 (by omega)) (HK.out.2.2.setCell (p := ⟨w.heap.size + 1, 1, none⟩) (by show w.heap.size ≤ w.heap.size + 1; omega) (.string c))
          clear ho hs hm
          go_wp2
          try simp only [Exit.inBlock, Exit.then]
          rw [HF.out]
          refine bodyPost_ret (v := .tuple #[.agg #[.string ⟨#[]⟩, .string ⟨#[]⟩, .string ⟨#[]⟩, .string ⟨#[]⟩, .slice none 0 0], .int .i64 17]) ?_ rfl ?_
          · exact results_rtZ (ty := 30) rfl _ _ w.heap.size 30 _ (0, 0) _ _ rfl rfl (QB.all (q' := q0) (r' := .slice none 0 0) HR.out.1) Tryd.underlying30 rfl infoReqQ
          · exact ⟨_, rfl, gown_nilR _ _, below5 HR.out.2 (Nat.le_refl _) _ _ _ _ _⟩
      | false =>
      have ts : (x.toList == [58, 115, 99, 104, 101, 109, 101]) = false := tl_litQ x _ _ hs
      cases hp : (x == paN) with
      | true =>
        have tp : (x.toList == [58, 112, 97, 116, 104]) = true := tl_litQ x _ _ hp
        by_cases ho : qp.size = 0
        · have ho2 := empTz qp ho
          by_cases hz : c.size = 0
          · have hz2 := empTz c hz
            have HF : Hid (rzR L = ⟨q0, [], 17⟩) := HBad.out (by rw [HS.out]; simp [qStep, hz])
            have HR : Hid _ := And.intro (QB.other (k := w.heap.size + 1) (i := 3) (v := .string c) HK.out.1 (by omega)) (HK.out.2.2.setCell (p := ⟨w.heap.size + 1, 3, none⟩) (by show w.heap.size ≤ w.heap.size + 1; omega) (.string c))
            clear ho hz hp hm hs
            go_wp2
            try simp only [Exit.inBlock, Exit.then]
            rw [HF.out]
            refine bodyPost_ret (v := .tuple #[.agg #[.string ⟨#[]⟩, .string ⟨#[]⟩, .string ⟨#[]⟩, .string ⟨#[]⟩, .slice none 0 0], .int .i64 17]) ?_ rfl ?_
            · exact results_rtZ (ty := 30) rfl _ _ w.heap.size 30 _ (0, 0) _ _ rfl rfl (QB.all (q' := q0) (r' := .slice none 0 0) HR.out.1) Tryd.underlying30 rfl infoReqQ
            · exact ⟨_, rfl, gown_nilR _ _, below5 HR.out.2 (Nat.le_refl _) _ _ _ _ _⟩
          · have hz2 := empFz c hz
            have HF : Hid (qAt L (k + 1) = some ⟨qm, qs, qa, c⟩) := by show qAt L (k + 1) = _; rw [HS.out]; simp only [qStep, hz, hp, hm, hs, ho, if_true, if_false, Bool.false_eq_true]
            have HR : Hid _ := And.intro (QB.other (k := w.heap.size + 1) (i := 3) (v := .string c) HK.out.1 (by omega)) (And.intro (HK.out.2.1.set3 c) (HK.out.2.2.setCell (p := ⟨w.heap.size + 1, 3, none⟩) (by show w.heap.size ≤ w.heap.size + 1; omega) (.string c)))
            clear ho hz hp hm hs
            go_wp2
            go_roundw
            case rel => exact ⟨k + 1, ⟨qm, qs, qa, c⟩, by omega, by go_num, HF.out, HR.out.1, HR.out.2.1, HR.out.2.2⟩
            case measure => simp [intOf]; omega
        · have ho2 := empFz qp ho
          have HF : Hid (rzR L = ⟨q0, [], 17⟩) := HBad.out (by rw [HS.out]; simp only [qStep, hp, hm, hs, ho, if_true, if_false, Bool.false_eq_true]; split <;> rfl)
          have HR : Hid _ := And.intro (QB.other (k := w.heap.size + 1) (i := 3) (v := .string c) HK.out.1 (by omega)) (HK.out.2.2.setCell (p := ⟨w.heap.size + 1, 3, none⟩) (by show w.heap.size ≤ w.heap.size + 1; omega) (.string c))
          clear ho hp hm hs
          go_wp2
          try simp only [Exit.inBlock, Exit.then]
          rw [HF.out]
          refine bodyPost_ret (v := .tuple #[.agg #[.string ⟨#[]⟩, .string ⟨#[]⟩, .string ⟨#[]⟩, .string ⟨#[]⟩, .slice none 0 0], .int .i64 17]) ?_ rfl ?_
          · exact results_rtZ (ty := 30) rfl _ _ w.heap.size 30 _ (0, 0) _ _ rfl rfl (QB.all (q' := q0) (r' := .slice none 0 0) HR.out.1) Tryd.underlying30 rfl infoReqQ
          · exact ⟨_, rfl, gown_nilR _ _, below5 HR.out.2 (Nat.le_refl _) _ _ _ _ _⟩
      | false =>
      have tp : (x.toList == [58, 112, 97, 116, 104]) = false := tl_litQ x _ _ hp
      cases ha : (x == auN) with
      | true =>
        have ta : (x.toList == [58, 97, 117, 116, 104, 111, 114, 105, 116, 121]) = true := tl_litQ x _ _ ha
        by_cases ho : qa.size = 0
        · have ho2 := empTz qa ho
          by_cases hz : c.size = 0
          · have hz2 := empTz c hz
            have HF : Hid (rzR L = ⟨q0, [], 17⟩) := HBad.out (by rw [HS.out]; simp [qStep, hz])
            have HR : Hid _ := And.intro (QB.other (k := w.heap.size + 1) (i := 2) (v := .string c) HK.out.1 (by omega)) (HK.out.2.2.setCell (p := ⟨w.heap.size + 1, 2, none⟩) (by show w.heap.size ≤ w.heap.size + 1; omega) (.string c))
            clear ho hz ha hm hs hp
            go_wp2
            try simp only [Exit.inBlock, Exit.then]
            rw [HF.out]
            refine bodyPost_ret (v := .tuple #[.agg #[.string ⟨#[]⟩, .string ⟨#[]⟩, .string ⟨#[]⟩, .string ⟨#[]⟩, .slice none 0 0], .int .i64 17]) ?_ rfl ?_
            · exact results_rtZ (ty := 30) rfl _ _ w.heap.size 30 _ (0, 0) _ _ rfl rfl (QB.all (q' := q0) (r' := .slice none 0 0) HR.out.1) Tryd.underlying30 rfl infoReqQ
            · exact ⟨_, rfl, gown_nilR _ _, below5 HR.out.2 (Nat.le_refl _) _ _ _ _ _⟩
          · have hz2 := empFz c hz
            have HF : Hid (qAt L (k + 1) = some ⟨qm, qs, c, qp⟩) := by show qAt L (k + 1) = _; rw [HS.out]; simp only [qStep, hz, ha, hm, hs, hp, ho, if_true, if_false, Bool.false_eq_true]
            have HR : Hid _ := And.intro (QB.other (k := w.heap.size + 1) (i := 2) (v := .string c) HK.out.1 (by omega)) (And.intro (HK.out.2.1.set2 c) (HK.out.2.2.setCell (p := ⟨w.heap.size + 1, 2, none⟩) (by show w.heap.size ≤ w.heap.size + 1; omega) (.string c)))
            clear ho hz ha hm hs hp
            go_wp2
            go_roundw
            case rel => exact ⟨k + 1, ⟨qm, qs, c, qp⟩, by omega, by go_num, HF.out, HR.out.1, HR.out.2.1, HR.out.2.2⟩
            case measure => simp [intOf]; omega
        · have ho2 := empFz qa ho
          have HF : Hid (rzR L = ⟨q0, [], 17⟩) := HBad.out (by rw [HS.out]; simp only [qStep, ha, hm, hs, hp, ho, if_true, if_false, Bool.false_eq_true]; split <;> rfl)
          have HR : Hid _ := And.intro (QB.other (k := w.heap.size + 1) (i := 2) (v := .string c) HK.out.1 (by omega)) (HK.out.2.2.setCell (p := ⟨w.heap.size + 1, 2, none⟩) (by show w.heap.size ≤ w.heap.size + 1; omega) (.string c))
          clear ho ha hm hs hp
          go_wp2
          try simp only [Exit.inBlock, Exit.then]
          rw [HF.out]
          refine bodyPost_ret (v := .tuple #[.agg #[.string ⟨#[]⟩, .string ⟨#[]⟩, .string ⟨#[]⟩, .string ⟨#[]⟩, .slice none 0 0], .int .i64 17]) ?_ rfl ?_
          · exact results_rtZ (ty := 30) rfl _ _ w.heap.size 30 _ (0, 0) _ _ rfl rfl (QB.all (q' := q0) (r' := .slice none 0 0) HR.out.1) Tryd.underlying30 rfl infoReqQ
          · exact ⟨_, rfl, gown_nilR _ _, below5 HR.out.2 (Nat.le_refl _) _ _ _ _ _⟩
      | false =>
      have ta : (x.toList == [58, 97, 117, 116, 104, 111, 114, 105, 116, 121]) = false := tl_litQ x _ _ ha
      have HF : Hid (rzR L = ⟨q0, [], 17⟩) := HBad.out (by rw [HS.out]; simp only [qStep, hm, hs, hp, ha, if_false, Bool.false_eq_true]; split <;> rfl)
      have HR : Hid _ := And.intro HK.out.1 HK.out.2.2
      clear hm hs hp ha
      go_wp2
      try simp only [Exit.inBlock, Exit.then]
      rw [HF.out]
      refine bodyPost_ret (v := .tuple #[.agg #[.string ⟨#[]⟩, .string ⟨#[]⟩, .string ⟨#[]⟩, .string ⟨#[]⟩, .slice none 0 0], .int .i64 17]) ?_ rfl ?_
      · exact results_rtZ (ty := 30) rfl _ _ w.heap.size 30 _ (0, 0) _ _ rfl rfl (QB.all (q' := q0) (r' := .slice none 0 0) HR.out.1) Tryd.underlying30 rfl infoReqQ
      · exact ⟨_, rfl, gown_nilR _ _, below5 HR.out.2 (Nat.le_refl _) _ _ _ _ _⟩
    · obtain rfl : k = N := by omega
      have hlt' : ¬ (k : Int) < (k : Int) := by omega
      have hge0 : (0 : Int) ≤ (k : Int) := by omega
      have hRq : rzR L = if rqOK q.m q.s q.a q.p (L.drop k) = true then ⟨q, L.drop k, 0⟩ else ⟨q0, [], 17⟩ := by rw [HC.out.2.1, hq]
      have hkn : k ≤ n := by have := HC.out.2.2.2.2.2.1; have := HN.out; omega
      have hkn' : (k : Int) ≤ (n : Int) := by omega
      have hfd : fin (L.drop k) := fun j hj => by
        rw [List.length_drop] at hj
        have z := HC.out.2.2.2.2.1 (j + k) (by omega)
        rw [show (L.drop k).getD j default = L.getD (j + k) default by simp [List.getD, Nat.add_comm]]
        exact z
      have hdl : (L.drop k).length ≤ 1048576 := by rw [List.length_drop]; have := HC.out.2.2.2.2.2.2; have := HN.out; omega
      have bE : Below wr.heap.size wr (wr.alloc (.cells #[] 44)) := (Below.refl _ _).alloc (Nat.le_refl _) _
      have oE := oN0 wr
      have kE := kq.below bE kq.lt
      have rE := kr.below bE kr.lt
      have HX : Hid _ := And.intro oE (And.intro kE (And.intro rE (And.intro (br.trans (bE.mono br.size)) (And.intro hRq (And.intro hfd (And.intro hdl (And.intro br.size (Nat.lt_of_succ_lt kq.lt))))))))
      obtain ⟨y0, y1, y2, y3, y4⟩ := kE.cel
      obtain ⟨z0, z1, z2, z3, z4⟩ := kE.free
      have lr := kq.lt
      have HKQ : Hid _ := And.intro kq (And.intro kr br)
      have HQF : Hid _ := qAt_fin HC.out.2.2.2.2.1 k q (by have := HN.out; omega) hq
      clear hq kr kq br hRq hfd hdl bE oE kE rE
      have hqf := HQF.out
      rcases HC.out.2.2.1.cellsFQ.2 with ⟨e, e2⟩ | ⟨g, cap, cur, e, _, hh, hnc, _⟩
      · simp only [Value.slice.injEq] at e
        obtain ⟨rfl, em, rfl⟩ := e
        obtain rfl : n = 0 := em
        obtain rfl : k = 0 := by omega
        clear e2 y0 y1 y2 y3 y4 z0 z1 z2 z3 z4
        obtain ⟨x0, x1, x2, x3, x4⟩ := HKQ.out.1.cel
        obtain ⟨z0, z1, z2, z3, z4⟩ := HKQ.out.1.free
        have bV : Below (wr.setCell ⟨w.heap.size + 1, 4, none⟩ (.slice (some ⟨wr.heap.size, 0, none⟩) 0 0)).heap.size (wr.setCell ⟨w.heap.size + 1, 4, none⟩ (.slice (some ⟨wr.heap.size, 0, none⟩) 0 0)) ((wr.setCell ⟨w.heap.size + 1, 4, none⟩ (.slice (some ⟨wr.heap.size, 0, none⟩) 0 0)).alloc (.cells #[] 44)) := (Below.refl _ _).alloc (Nat.le_refl _) _
        have K5 := (HKQ.out.1.set4 (.slice (some ⟨wr.heap.size, 0, none⟩) 0 0)).below bV (HKQ.out.1.set4 (.slice (some ⟨wr.heap.size, 0, none⟩) 0 0)).lt
        have R4 := QB.other (k := w.heap.size + 1) (i := 4) (v := (.slice (some ⟨wr.heap.size, 0, none⟩) 0 0)) HKQ.out.2.1 (by omega)
        have R5 := R4.below bV R4.lt
        have o6 := oN0 (wr.setCell ⟨w.heap.size + 1, 4, none⟩ (.slice (some ⟨wr.heap.size, 0, none⟩) 0 0))
        rw [show (wr.setCell ⟨w.heap.size + 1, 4, none⟩ (.slice (some ⟨wr.heap.size, 0, none⟩) 0 0)).heap.size = wr.heap.size by simp] at o6
        have B5 := ((HKQ.out.2.2.setCell (p := ⟨w.heap.size + 1, 4, none⟩) (by show w.heap.size ≤ w.heap.size + 1; omega) (.slice (some ⟨wr.heap.size, 0, none⟩) 0 0)).trans (bV.mono (by simp; omega)))
        have oD : GOwns 44 2 ((wr.setCell ⟨w.heap.size + 1, 4, none⟩ (.slice (some ⟨wr.heap.size, 0, none⟩) 0 0)).alloc (.cells #[] 44)) wr.heap.size (.slice (some ⟨wr.heap.size, 0, none⟩) 0 0) (SField.L (L.drop 0)) := by
          rw [show L.drop 0 = [] from List.drop_eq_nil_of_le (by have := HN.out; omega)]; exact o6
        have H5 : Hid _ := And.intro K5 (And.intro R5 (And.intro oD B5))
        clear bV K5 R4 R5 o6 B5 oD
        go_wp2_with fail
        go_at_call 19
        have CR := reqS q.m q.s q.a q.p (.slice (some ⟨wr.heap.size, 0, none⟩) 0 0) (L.drop 0) _ H5.out.2.2.1.row HX.out.2.2.2.2.2.2.1 HX.out.2.2.2.2.2.1 HQF.out.1 HQF.out.2.1 HQF.out.2.2.1 HQF.out.2.2.2
        cases hK : rqOK q.m q.s q.a q.p (L.drop 0) with
        | false =>
          rw [hK] at CR
          refine CR.mono ?_
          clear CR
          rintro e w6 ⟨rfl, b6⟩
          have R6 := H5.out.2.1.below b6 H5.out.2.1.lt
          have HR : Hid _ := And.intro R6 (H5.out.2.2.2.trans (b6.mono H5.out.2.2.2.size))
          have HF : Hid (rzR L = ⟨q0, [], 17⟩) := by show rzR L = _; rw [HX.out.2.2.2.2.1, hK]; rfl
          clear hK b6 x0 x1 x2 x3 x4 z0 z1 z2 z3 z4
          obtain ⟨e0, e1, e2, e3, e4⟩ := R6.cel
          obtain ⟨g0, g1, g2, g3, g4⟩ := R6.free
          clear R6
          go_wp2
          try simp only [Exit.inBlock, Exit.then]
          rw [HF.out]
          refine bodyPost_ret (v := .tuple #[.agg #[.string ⟨#[]⟩, .string ⟨#[]⟩, .string ⟨#[]⟩, .string ⟨#[]⟩, .slice none 0 0], .int .i64 17]) ?_ rfl ?_
          · exact results_rtZ (ty := 30) rfl _ _ w.heap.size 30 _ (0, 0) _ _ rfl rfl (QB.all (q' := q0) (r' := .slice none 0 0) HR.out.1) Tryd.underlying30 rfl infoReqQ
          · exact ⟨_, rfl, gown_nilR _ _, below5 HR.out.2 (Nat.le_refl _) _ _ _ _ _⟩
        | true =>
          rw [hK] at CR
          refine CR.mono ?_
          clear CR
          rintro e w6 ⟨rfl, b6⟩
          have R6 := H5.out.2.1.below b6 H5.out.2.1.lt
          have K6 := H5.out.1.below b6 H5.out.1.lt
          have HR : Hid _ := And.intro R6 (And.intro (H5.out.2.2.2.trans (b6.mono H5.out.2.2.2.size)) (H5.out.2.2.1.below b6))
          have HF : Hid (rzR L = ⟨q, L.drop 0, 0⟩) := by show rzR L = _; rw [HX.out.2.2.2.2.1, hK]; rfl
          clear hK b6 x0 x1 x2 x3 x4 z0 z1 z2 z3 z4
          obtain ⟨e0, e1, e2, e3, e4⟩ := R6.cel
          obtain ⟨g0, g1, g2, g3, g4⟩ := R6.free
          obtain ⟨y0, y1, y2, y3, y4⟩ := K6.cel
          clear R6 K6
          go_wp2
          try simp only [Exit.inBlock, Exit.then]
          rw [HF.out]
          refine bodyPost_ret (v := .tuple #[.agg #[.string q.m, .string q.s, .string q.a, .string q.p, (.slice (some ⟨wr.heap.size, 0, none⟩) 0 0)], .int .i64 0]) ?_ rfl ?_
          · exact results_rtZ (ty := 30) rfl _ _ w.heap.size 30 _ (0, 0) _ _ rfl rfl (QB.all (q' := q) (r' := (.slice (some ⟨wr.heap.size, 0, none⟩) 0 0)) HR.out.1) Tryd.underlying30 rfl infoReqQ
          · exact ⟨_, rfl, (gown_setR (gown_setR (gown_setR (gown_setR (gown_setR HR.out.2.2 HX.out.2.2.2.2.2.2.2.2) HX.out.2.2.2.2.2.2.2.2) HX.out.2.2.2.2.2.2.2.2) HX.out.2.2.2.2.2.2.2.2) HX.out.2.2.2.2.2.2.2.2).mono HX.out.2.2.2.2.2.2.2.1, below5 HR.out.2.1 (Nat.le_refl _) _ _ _ _ _⟩
      · simp only [Value.slice.injEq] at e
        obtain ⟨rfl, em, rfl⟩ := e
        have hcn : n ≤ cp := by have := HN.out; omega
        have hcn' : (n : Int) ≤ (cp : Int) := by omega
        obtain ⟨XB, eXB⟩ : ∃ XB : Option Addr, (if cp = k then some (⟨g, 0, none⟩ : Addr) else some ⟨g, k * 2, none⟩) = XB := ⟨_, rfl⟩
        have RW : GRow 2 (wr.alloc (.cells #[] 44)) (.slice XB (n - k) (cp - k)) (SField.L (L.drop k)) := by
          by_cases hl : k < n
          · obtain ⟨b, off, cap', ev, hb, hc⟩ := frow_at HC.out.2.2.2.1 (by have := HN.out; omega)
            simp only [Value.slice.injEq, Option.some.injEq, Addr.mk.injEq] at ev
            obtain ⟨⟨rfl, rfl, _⟩, _, rfl⟩ := ev
            rw [← eXB, if_neg (by omega)]
            refine Or.inr ⟨g, k * 2, cp - k, by simp [HN.out], Nat.lt_of_lt_of_le hb (HX.out.2.2.2.1.size), fun j hj f hf2 => ?_⟩
            rw [List.length_map, List.length_drop] at hj
            have qc := hc (j + k) (by omega) f hf2
            rw [SField.at (L.drop k) j (by rw [List.length_drop]; exact hj)]
            rw [show (L.drop k).getD j default = L.getD (j + k) default by simp [List.getD, Nat.add_comm]]
            rw [← qc, show k * 2 + (j * 2 + f) = 0 + ((j + k) * 2 + f) by omega]
            exact HX.out.2.2.2.1.cell (p := ⟨g, 0 + ((j + k) * 2 + f), none⟩) hb
          · exact Or.inl ⟨by rw [show L.drop k = [] from List.drop_eq_nil_of_le (by have := HN.out; omega)]; rfl, XB, cp - k, by rw [show n - k = 0 by omega]⟩
        have HRW : Hid _ := RW
        clear RW em hh hnc
        go_wp2_with (refine wpList_append_fieldsQ rfl _ _ 26 Tryd.underlying26 rfl wr.heap.size (.slice (some ⟨wr.heap.size, 0, none⟩) 0 0) [] rfl HX.out.1 (.slice XB (n - k) (cp - k)) (L.drop k) rfl HRW.out (by have := HX.out.2.2.2.2.2.2.1; simp at this; simp; omega) (by simp) ?_; intro v5 w5 o5 g5; have A5 : Below wr.heap.size (wr.alloc (.cells #[] 44)) w5 := (Below.refl _ _).grown g5 (by simp) (fun q e => by have q2 : wr.heap.size = q := Option.some.inj e; omega); have o6 : GOwns 44 2 w5 wr.heap.size v5 (SField.L (L.drop k)) := o5; obtain ⟨va, vc, ev⟩ := frow_form o6.row; obtain ⟨m5, em5⟩ : ∃ m5, m5 = (L.drop k).length := ⟨_, rfl⟩; rw [← em5] at ev; clear em5 o5 g5 y0 y1 y2 y3 y4 z0 z1 z2 z3 z4; subst ev; have K5 := HX.out.2.1.below A5 lr; have R5 := HX.out.2.2.1.below A5 (by have := HX.out.2.2.2.2.2.2.2.2; omega); obtain ⟨z0, z1, z2, z3, z4⟩ := K5.free; obtain ⟨y0, y1, y2, y3, y4⟩ := K5.cel; obtain ⟨s0, s1, s2, s3, s4⟩ := (K5.set4 (.slice va m5 vc)).cel; have H5 : Hid _ := And.intro (K5.set4 (.slice va m5 vc)) (And.intro (QB.other (k := w.heap.size + 1) (i := 4) (v := .slice va m5 vc) R5 (by omega)) (And.intro (gown_setR (g := w.heap.size + 1) (i := 4) (u := .slice va m5 vc) o6 lr) ((HX.out.2.2.2.1.trans (A5.mono HX.out.2.2.2.2.2.2.2.1)).setCell (p := ⟨w.heap.size + 1, 4, none⟩) (by show w.heap.size ≤ w.heap.size + 1; omega) (.slice va m5 vc)))); clear K5 R5 o6 A5)
        go_at_call 19
        have CR := reqS q.m q.s q.a q.p (.slice va m5 vc) (L.drop k) _ H5.out.2.2.1.row HX.out.2.2.2.2.2.2.1 HX.out.2.2.2.2.2.1 HQF.out.1 HQF.out.2.1 HQF.out.2.2.1 HQF.out.2.2.2
        cases hK : rqOK q.m q.s q.a q.p (L.drop k) with
        | false =>
          rw [hK] at CR
          refine CR.mono ?_
          clear CR
          rintro e w6 ⟨rfl, b6⟩
          have R6 := H5.out.2.1.below b6 H5.out.2.1.lt
          have HR : Hid _ := And.intro R6 (H5.out.2.2.2.trans (b6.mono H5.out.2.2.2.size))
          have HF : Hid (rzR L = ⟨q0, [], 17⟩) := by show rzR L = _; rw [HX.out.2.2.2.2.1, hK]; rfl
          clear hK b6 y0 y1 y2 y3 y4 z0 z1 z2 z3 z4 s0 s1 s2 s3 s4
          obtain ⟨e0, e1, e2, e3, e4⟩ := R6.cel
          obtain ⟨g0, g1, g2, g3, g4⟩ := R6.free
          clear R6
          go_wp2
          try simp only [Exit.inBlock, Exit.then]
          rw [HF.out]
          refine bodyPost_ret (v := .tuple #[.agg #[.string ⟨#[]⟩, .string ⟨#[]⟩, .string ⟨#[]⟩, .string ⟨#[]⟩, .slice none 0 0], .int .i64 17]) ?_ rfl ?_
          · exact results_rtZ (ty := 30) rfl _ _ w.heap.size 30 _ (0, 0) _ _ rfl rfl (QB.all (q' := q0) (r' := .slice none 0 0) HR.out.1) Tryd.underlying30 rfl infoReqQ
          · exact ⟨_, rfl, gown_nilR _ _, below5 HR.out.2 (Nat.le_refl _) _ _ _ _ _⟩
        | true =>
          rw [hK] at CR
          refine CR.mono ?_
          clear CR
          rintro e w6 ⟨rfl, b6⟩
          have R6 := H5.out.2.1.below b6 H5.out.2.1.lt
          have K6 := H5.out.1.below b6 H5.out.1.lt
          have HR : Hid _ := And.intro R6 (And.intro (H5.out.2.2.2.trans (b6.mono H5.out.2.2.2.size)) (H5.out.2.2.1.below b6))
          have HF : Hid (rzR L = ⟨q, L.drop k, 0⟩) := by show rzR L = _; rw [HX.out.2.2.2.2.1, hK]; rfl
          clear hK b6 y0 y1 y2 y3 y4 z0 z1 z2 z3 z4 s0 s1 s2 s3 s4
          obtain ⟨e0, e1, e2, e3, e4⟩ := R6.cel
          obtain ⟨g0, g1, g2, g3, g4⟩ := R6.free
          obtain ⟨y0, y1, y2, y3, y4⟩ := K6.cel
          clear R6 K6
          go_wp2
          try simp only [Exit.inBlock, Exit.then]
          rw [HF.out]
          refine bodyPost_ret (v := .tuple #[.agg #[.string q.m, .string q.s, .string q.a, .string q.p, (.slice va m5 vc)], .int .i64 0]) ?_ rfl ?_
          · exact results_rtZ (ty := 30) rfl _ _ w.heap.size 30 _ (0, 0) _ _ rfl rfl (QB.all (q' := q) (r' := (.slice va m5 vc)) HR.out.1) Tryd.underlying30 rfl infoReqQ
          · exact ⟨_, rfl, (gown_setR (gown_setR (gown_setR (gown_setR (gown_setR HR.out.2.2 HX.out.2.2.2.2.2.2.2.2) HX.out.2.2.2.2.2.2.2.2) HX.out.2.2.2.2.2.2.2.2) HX.out.2.2.2.2.2.2.2.2) HX.out.2.2.2.2.2.2.2.2).mono HX.out.2.2.2.2.2.2.2.1, below5 HR.out.2.1 (Nat.le_refl _) _ _ _ _ _⟩
end Go.Proofs.YtdjflbanbhhniaaDoor
