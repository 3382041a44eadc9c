import Derived.Test.YtjikdecfampbiaaPhB
import Derived.Deep.RegionLaw
import Derived.Deep.RegionHeld3
namespace Go.Proofs.Ytjikdecfampbiaa
open Go.RowKit
set_option linter.unusedVariables false
set_option linter.unusedSimpArgs false

theorem len8 {D : List Int} (h : D.length = 8) : ∃ x0 x1 x2 x3 x4 x5 x6 x7, D = [x0, x1, x2, x3, x4, x5, x6, x7] := by
  match D, h with
  | [x0, x1, x2, x3, x4, x5, x6, x7], _ => exact ⟨x0, x1, x2, x3, x4, x5, x6, x7, rfl⟩
theorem infoChal : (Try.prog.info? 80).map (fun i => (i.zero, i.size, i.bytes)) = some (some (.agg #[.int .u8 0, .int .u8 0, .int .u8 0, .int .u8 0, .int .u8 0, .int .u8 0, .int .u8 0, .int .u8 0, .int .i64 0]), 9, 16) := by kernel_rfl
theorem wrow_flat (ws : List (List Int × Nat)) (h : ∀ c ∈ ws, c.1.length = 8) : FlatK 9 (ws.map wrow) := fun x hx => by
  obtain ⟨c, hc, rfl⟩ := List.mem_map.1 hx
  refine ⟨by unfold wrow; simp [h c hc], fun v hv => ?_⟩
  unfold wrow at hv
  rcases List.mem_append.1 hv with z | z
  · obtain ⟨y, _, rfl⟩ := List.mem_map.1 z; rfl
  · have : v = .int .i64 (c.2 : Int) := by simpa using z
    rw [this]; rfl
theorem PB.chg {S : Nat → Prop} {w w' : World} {g base : Nat} {m : PX} {wv : Value} (h : PB w g m wv) (hc : ChS S 80 base w w') (hs : ¬ S g) : PB w' g m wv := by
  obtain ⟨cs, b, r⟩ := h
  exact ⟨cs, hc.bk b (Or.inr ⟨hs, by decide⟩), r⟩
theorem OffR.full {T : TypeId} {K : Nat} {w : World} {base : Nat} {v : Value} {L : List (List Value)} (h : OffR T K w base v L) (h0 : 0 < L.length) : ∃ g o cap, v = .slice (some ⟨g, o, none⟩) L.length cap ∧ L.length ≤ cap ∧ cap ≤ maxLen := by
  rcases h with ⟨_, rfl⟩ | ⟨g, o, cap, cur, rfl, _, _, h3, h4, _⟩
  · simp at h0
  · exact ⟨g, o, cap, rfl, h3, h4⟩
theorem PB.drew {w : World} {g : Nat} {m : PX} {wv : Value} (h : PB w g m wv) : PB w.drew g m wv := h
theorem OffR.drew {T : TypeId} {K : Nat} {w : World} {base : Nat} {v : Value} {L : List (List Value)} (h : OffR T K w base v L) : OffR T K w.drew base v L := h
theorem wpush_map (ws : List (List Int × Nat)) (c : List Int × Nat) : (wpush ws c).map wrow = if ws.length < 4 then ws.map wrow ++ [wrow c] else (ws.map wrow ++ [wrow c]).tail := by
  unfold wpush
  split <;> simp [List.map_tail]
set_option maxRecDepth 20000 in
set_option maxHeartbeats 4000000 in
theorem chalI (g base : Nat) (m : PX) (v : Value) (D : List Int) (i : Nat) (w : World) (h : PRep w g base m) (hg : base ≤ g) (hI : PXI i m) (hr : Row w .u8 v D) (hl : D.length ≤ 1048576) :
    Calls Try.prog 31 #[.pointer (some ⟨g, 0, none⟩), v] w fun e w' => e = .returned (.int .i64 (if D.length ≠ 8 then 1 else 0)) ∧ PDo g base w w' (if D.length ≠ 8 then m else { m with ws := wpush m.ws (D, m.ad) }) := by
  by_cases h8 : D.length = 8
  case neg =>
    rw [if_pos h8, if_pos h8]
    obtain ⟨ao, cp, rfl⟩ := hr.form
    have hne : ((D.length : Int) != 8) = true := by simp; omega
    have HH : Hid _ := h
    clear hr h h8
    generalize D.length = n at *
    go_enter Try.func31, Try.ntmps31
    go_wp2
    go_ret
    exact ⟨rfl, HH.out, ChS.refl _ _ _ _⟩
  rw [if_neg (fun e => e h8), if_neg (fun e => e h8)]
  obtain ⟨x0, x1, x2, x3, x4, x5, x6, x7, rfl⟩ := len8 h8
  obtain ⟨b, off, cap, rfl, hb, hcap, hc⟩ := hr.full (by simp)
  have r0 := hc 0 (by simp)
  have r1 := hc 1 (by simp)
  have r2 := hc 2 (by simp)
  have r3 := hc 3 (by simp)
  have r4 := hc 4 (by simp)
  have r5 := hc 5 (by simp)
  have r6 := hc 6 (by simp)
  have r7 := hc 7 (by simp)
  dsimp only [List.getD, List.getElem?_cons_zero, List.getElem?_cons_succ, Option.getD, Nat.add_zero] at r0 r1 r2 r3 r4 r5 r6 r7
  obtain ⟨wv, hB, hO⟩ := h
  have dw := hB.cw
  have d1 := hB.c1
  have fw := hB.free 770
  obtain ⟨wa, wcp, ew⟩ := hO.form
  obtain ⟨wn, ewn⟩ : ∃ wn, wn = (m.ws.map wrow).length := ⟨_, rfl⟩
  rw [← ewn] at ew
  have hglt := hB.lt
  obtain ⟨ad, ead⟩ : ∃ ad, ad = m.ad := ⟨_, rfl⟩
  rw [← ead] at d1 ⊢
  have HH : Hid _ := And.intro hB (And.intro hO (And.intro ewn (And.intro ead (And.intro hI hg))))
  have hO' := hO
  rw [ew] at hO'
  have hsa : ∀ W : World, (Instr.arrayAt 78 (.slice (some ⟨b, off, none⟩) 8 cap)).run Try.prog W = .ok (.pointer (some ⟨b, off, none⟩)) W := fun W => by simp [Instr.arrayAt, run_underlying Try.underlying78]
  obtain ⟨W1, eW1⟩ : ∃ W1, W1 = (w.alloc (.cells #[.int .u8 x0, .int .u8 x1, .int .u8 x2, .int .u8 x3, .int .u8 x4, .int .u8 x5, .int .u8 x6, .int .u8 x7, .int .i64 (ad : Int)] 80)).drew := ⟨_, rfl⟩
  have bW1 : Below w.heap.size w W1 := by rw [eW1]; exact below_drewN (n := 1) ((Below.refl _ _).alloc (Nat.le_refl _) _)
  have lW1 : GRow 9 W1 (.slice (some ⟨w.heap.size, 0, none⟩) 1 1) [wrow ([x0, x1, x2, x3, x4, x5, x6, x7], ad)] := by rw [eW1]; exact lit_flat w (wrow ([x0, x1, x2, x3, x4, x5, x6, x7], ad)) 80
  have sW1 : base ≤ W1.heap.size := by have := bW1.size; omega
  have HO : Hid _ := And.intro (hO'.below bW1) (And.intro lW1 (And.intro sW1 bW1))
  rw [eW1] at HO
  clear hc hr h8 hl hB hO hO' ewn ead bW1 lW1 sW1 eW1
  subst ew
  go_enter Try.func31, Try.ntmps31
  go_wp2_with fail
  go_cut [] from 8 to 40 (fun wx => ∃ g5 q5 k5, PB wx g m (.slice (some ⟨g5, q5, none⟩) (wn + 1) k5) ∧ OffR 80 9 wx base (.slice (some ⟨g5, q5, none⟩) (wn + 1) k5) (m.ws.map wrow ++ [wrow ([x0, x1, x2, x3, x4, x5, x6, x7], ad)]) ∧ ChS (fun k => k = g) 80 base w wx ∧ wn + 1 ≤ k5 ∧ wn ≤ 4)
  case first =>
    go_region_law (refine step_append_off rfl (.tmp 12) (.tmp 21) 63 80 Try.underlying63 _ 9 16 infoChal rfl (by decide) (by decide) rfl base (.slice wa wn wcp) (m.ws.map wrow) (wrow_flat _ (fun c hc => (HH.out.2.2.2.2.1.wd c hc).1)) rfl HO.out.1 _ [wrow ([x0, x1, x2, x3, x4, x5, x6, x7], ad)] (wrow_flat [([x0, x1, x2, x3, x4, x5, x6, x7], ad)] (by simp)) rfl HO.out.2.1 (Nat.zero_lt_succ _) (by have := HH.out.2.2.2.2.1.wl; rw [List.length_map, List.length_singleton]; omega) HO.out.2.2.1 ?_
                   intro v5 w5 o5 c5
                   have B5 : PB w5 g m (.slice wa wn wcp) := (HH.out.1.chg (S := fun _ => False) (base := base) (ChS.of_below HO.out.2.2.2) (fun e => e)).chg (c5 (fun _ => False)) (fun e => e)
                   obtain ⟨g5, q5, k5, ev, hk5, hm5⟩ := o5.full (by simp)
                   obtain ⟨n5, en5⟩ : ∃ n5, n5 = (List.map wrow m.ws ++ [wrow ([x0, x1, x2, x3, x4, x5, x6, x7], ad)]).length := ⟨_, rfl⟩
                   rw [← en5] at ev hk5
                   have e5 : n5 = wn + 1 := by rw [en5, HH.out.2.2.1, List.length_append]; rfl
                   have hwl : wn ≤ 4 := by have t := HH.out.2.2.1; have t2 := HH.out.2.2.2.2.1.wl; rw [List.length_map] at t; omega
                   have f770 := B5.free 770
                   have y770 := B5.cw
                   have H5 : Hid _ := And.intro o5 (And.intro c5 (And.intro B5 (And.intro e5 ev)))
                   subst ev
                   clear o5 c5 B5 en5 e5)
    all_goals
      go_wp2_with fail
      go_meet
      obtain ⟨o5, c5, B5, e5, ev⟩ := H5.out
      rw [e5] at hk5 o5 ⊢
      exact ⟨g5, q5, k5, B5.setW _ _, B5.off o5, ((ChS.of_below HO.out.2.2.2).trans (c5 _)).setG hg _ _, hk5, hwl⟩
  case rest =>
  obtain ⟨g5, q5, k5, B6, O6, C6, hk5, hwl⟩ := hcut
  clear r0 r1 r2 r3 r4 r5 r6 r7 hsa dw d1 fw HO
  have y7 := B6.cw
  have f7 := B6.free 770
  have hgl := B6.lt
  have hcap5 : k5 ≤ maxLen := by
    obtain ⟨_, _, _, e, _, h4⟩ := O6.full (by simp)
    simp only [Value.slice.injEq] at e
    omega
  have H6 : Hid _ := And.intro B6 (And.intro O6 C6)
  clear B6 O6 C6
  obtain ⟨n6, e6⟩ : ∃ n6, n6 = wn + 1 := ⟨_, rfl⟩
  rw [← e6] at y7 H6 hk5
  by_cases h4 : wn < 4
  · have hmx : max (0 : Int) ((n6 : Int) - 4) = 0 := by omega
    have hk0 : ¬ k5 = 0 := by omega
    have HE : Hid _ := e6
    clear e6
    go_wp2_with fail
    go_region
    go_wp2
    go_ret
    have ead := HH.out.2.2.2.1
    subst ead
    have hwn : m.ws.length < 4 := by have := HH.out.2.2.1; rw [List.length_map] at this; omega
    refine ⟨rfl, ⟨.slice (some ⟨g5, q5, none⟩) n6 k5, (H6.out.1.setW _ _).drew, ?_⟩, (H6.out.2.2.setG hg _ _).drew⟩
    show OffR _ _ _ _ _ ((wpush m.ws _).map wrow)
    rw [wpush_map, if_pos hwn]
    exact (H6.out.1.off H6.out.2.1).drew
  · have hmx : max (0 : Int) ((n6 : Int) - 4) = 1 := by omega
    have hk0 : ¬ k5 = 1 := by omega
    have hk1 : (1 : Int) ≤ (n6 : Int) := by omega
    have HE : Hid _ := e6
    clear e6
    go_wp2_with fail
    go_region
    go_wp2
    go_ret
    have ead := HH.out.2.2.2.1
    subst ead
    have hwn : m.ws.length = wn := by have := HH.out.2.2.1; rw [List.length_map] at this; omega
    have e6 := HE.out
    have O6 := H6.out.2.1
    obtain ⟨c0, L0, ec⟩ : ∃ c0 L0, m.ws = c0 :: L0 := by
      cases hm : m.ws with
      | nil => rw [hm] at hwn; simp at hwn; omega
      | cons c L => exact ⟨c, L, rfl⟩
    rw [ec] at O6
    obtain ⟨g7, q7, ea, en, O7⟩ := OffR.tail (L := L0.map wrow ++ [wrow ([x0, x1, x2, x3, x4, x5, x6, x7], m.ad)]) O6 (by have := HE.out; omega)
    simp only [Option.some.injEq, Addr.mk.injEq] at ea
    obtain ⟨rfl, rfl, -⟩ := ea
    refine ⟨rfl, ⟨.slice (some ⟨g5, q5 + 9, none⟩) (n6 - 1) (k5 - 1), (H6.out.1.setW _ _).drew, ?_⟩, (H6.out.2.2.setG hg _ _).drew⟩
    show OffR _ _ _ _ _ ((wpush m.ws _).map wrow)
    rw [wpush_map, if_neg (by omega), ec]
    have en' : n6 - 1 = (L0.map wrow ++ [wrow ([x0, x1, x2, x3, x4, x5, x6, x7], m.ad)]).length := by rw [en]; omega
    rw [← en'] at O7
    exact (H6.out.1.off O7).drew
end Go.Proofs.Ytjikdecfampbiaa
