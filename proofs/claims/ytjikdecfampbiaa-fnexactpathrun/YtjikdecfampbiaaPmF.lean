import Derived.Test.YtjikdecfampbiaaPmD
import Derived.Test.YtjikdecfampbiaaPmE
import Derived.Deep.LoopGhost
namespace Go.Proofs.Ytjikdecfampbiaa
open Go.RowKit
set_option linter.unusedVariables false
set_option linter.unusedSimpArgs false

theorem obs_flat (L : List SPathObs) : FlatK 5 (SPathObs.L L) := fun y hy => by
  obtain ⟨z, _, rfl⟩ := List.mem_map.1 hy
  refine ⟨rfl, fun v hv => ?_⟩
  unfold SPathObs.c at hv
  simp only [List.mem_cons, List.not_mem_nil, or_false] at hv
  rcases hv with rfl | rfl | rfl | rfl | rfl <;> rfl
theorem obs_notS {w : World} {x c1 c2 c3 base : Nat} {m : PX} {wv : Value} {Z : List ((List Int × Nat) × Value)} (h : MB w x c1 c2 c3 base m wv Z) {b n s : Nat} {v : Value} {xs : List Value} (o : w.ownsRow b 41 s v n xs) : ∀ k, v.ownBlock = some k → ¬ KS x c1 c2 c3 k := by
  intro k hk hS
  rcases o.2 with ⟨rfl, _⟩ | ⟨g, cap, cur, rfl, _, hh, _⟩
  · cases hk
  obtain rfl : g = k := Option.some.inj hk
  have ty : ∀ (B : Array Value) (T : TypeId), w.heap[g]? = some (.cells B T (0, 0)) → 41 = T := fun B T hb => by
    rw [hh] at hb
    have e2 := Option.some.inj hb
    injection e2
  obtain ⟨A1, b1, _⟩ := h.r1
  obtain ⟨A2, b2, _⟩ := h.r2
  obtain ⟨A3, b3, _⟩ := h.r3
  rcases hS with rfl | rfl | rfl | rfl
  · exact absurd (ty _ _ h.bk) (by decide)
  · exact absurd (ty _ _ b1) (by decide)
  · exact absurd (ty _ _ b2) (by decide)
  · exact absurd (ty _ _ b3) (by decide)
theorem gown_chg {w w' : World} {x c1 c2 c3 base b' : Nat} {m : PX} {v : Value} {L : List (List Value)} (hp : MRp w x c1 c2 c3 base m) (h : GOwns 41 5 w b' v L) (hc : ChS (KS x c1 c2 c3) 75 base w w') : GOwns 41 5 w' b' v L := by
  obtain ⟨wv, Z, M⟩ := hp
  obtain ⟨zs, o, hz⟩ := h
  exact ⟨zs, hc.ownsC o (by decide) (obs_notS M o), hz⟩
theorem litQ {W : World} {q : Nat} {cs : List Value} {T : TypeId} {fr : Nat × Nat} (h : W.heap[q]? = some (.cells cs.toArray T fr)) (K : Nat) (hK : cs.length = K) : GRow K W (.slice (some ⟨q, 0, none⟩) 1 1) [cs] := by
  subst hK
  refine Or.inr ⟨q, 0, 1, rfl, (Array.getElem?_eq_some_iff.1 h).1, fun j hj f hf => ?_⟩
  obtain rfl : j = 0 := by simpa using hj
  rw [Nat.zero_mul, Nat.zero_add, Nat.zero_add, bk_cell h f]
  simp
theorem MB.grownO {W W' : World} {x c1 c2 c3 base b' : Nat} {m : PX} {wv : Value} {Z : List ((List Int × Nat) × Value)} (h : MB W x c1 c2 c3 base m wv Z) (hc : ChS (fun _ => False) 41 b' W W') : MB W' x c1 c2 c3 base m wv Z :=
  ⟨hc.bk h.bk (Or.inr ⟨fun e => e, by decide⟩), h.r1.chg hc (fun e => e) (by decide), h.r2.chg hc (fun e => e) (by decide), h.r3.chg hc (fun e => e) (by decide), h.ne, h.lo, h.zs, h.of.chg hc (fun _ _ _ => Or.inr ⟨fun e => e, by decide⟩), fun z hz => hc.ownsC (h.ow z hz) (by decide) (fun _ _ e => e)⟩
theorem gown_blk {T : TypeId} {K : Nat} {w : World} {base : Nat} {v : Value} {L : List (List Value)} (h : GOwns T K w base v L) : ∀ k, v.ownBlock = some k → base ≤ k ∧ ∃ c fr, w.heap[k]? = some (.cells c T fr) := by
  obtain ⟨zs, o, _⟩ := h
  intro k hk
  rcases o.2 with ⟨rfl, _⟩ | ⟨g, cap, cur, rfl, hg, hh, _⟩
  · cases hk
  obtain rfl : g = k := Option.some.inj hk
  exact ⟨hg, _, _, hh⟩
set_option maxRecDepth 20000 in
set_option maxHeartbeats 4000000 in
theorem specPR (srv : Bool) (v : Value) (R : List SPathOp) (w : World) (row : BRow 4 SPathOp.c SPathOp.d w v R)
    (hd : ∀ j, j < R.length → (R.getD j default).d.length ≤ 1048576) (hby : ∀ j, ∀ x ∈ (R.getD j default).f3, 0 ≤ x ∧ x < 256) (hl : R.length ≤ 140737488355328) :
    Calls Try.prog 5 #[.bool srv, v] w fun e w' => ∃ r, e = .returned (.tuple #[r, .int .i64 (prC R)]) ∧ GOwns 41 5 w' w.heap.size r (SPathObs.L (prY srv R)) ∧ Below w.heap.size w w' := by
  obtain ⟨ao, cp, ev⟩ := row.form
  by_cases a1 : 300 < R.length
  · have e1 : prC R = 4 := by unfold prC; rw [if_pos a1]
    have e2 : prY srv R = [] := by unfold prY; rw [if_pos a1]
    rw [e1, e2, ev]
    have a1' : (300 : Int) < (R.length : Int) := by omega
    generalize R.length = n at *
    clear row hd hby
    go_enter Try.func5, Try.ntmps5
    go_wp2
    go_ret2
    exact ⟨_, rfl, GOwns.lit0 _ _ _ _ (Nat.le_refl _), (Below.refl _ _).alloc (Nat.le_refl _) _⟩
  have e1 : prC R = 0 := by unfold prC; rw [if_neg a1]
  have e2 : prY srv R = (List.range R.length).map (pobsAt srv R) := by unfold prY; rw [if_neg a1]
  rw [e1, e2]
  have C := newPM srv w
  have a1' : ¬ (300 : Int) < (R.length : Int) := by omega
  obtain ⟨n, en⟩ : ∃ n, n = R.length := ⟨_, rfl⟩
  have hn3 : n ≤ 300 := by omega
  rw [← en] at ev a1' ⊢
  have HH : Hid _ := And.intro C (And.intro row (And.intro hd (And.intro hby en)))
  clear C row hd hby en e1 e2 a1 hl
  subst ev
  go_enter Try.func5, Try.ntmps5
  go_wp2_with fail
  go_at_call 14
  refine HH.out.1.mono ?_
  rintro e w1 ⟨x, c1, c2, c3, rfl, P1, b1⟩
  have b1' : Below w1.heap.size w1 (w1.alloc (.cells #[] 41)) := (Below.refl _ _).alloc (Nat.le_refl _) _
  have H1 : Hid _ := And.intro (P1.below b1') (And.intro (b1.trans (b1'.mono b1.size)) (GOwns.lit0 41 5 w1 w.heap.size b1.size))
  clear P1 b1 b1'
  go_wp2_with fail
  go_loopg [7, 8, 9] n (fun q ov kv u9 wr => ∃ k : Nat, k ≤ n ∧ q = n - k ∧ kv = .int .i64 (k : Int) ∧ GOwns 41 5 wr w.heap.size ov (SPathObs.L ((List.range k).map (pobsAt srv R))) ∧ MRp wr x c1 c2 c3 w.heap.size (prunP srv R k) ∧ Below w.heap.size w wr)
  case atStart => exact ⟨0, Nat.zero_le _, by omega, rfl, H1.out.2.2, H1.out.1, H1.out.2.1⟩
  case round =>
    obtain ⟨k, hk, hq, rfl, G, P, bw⟩ := hrel
    by_cases hlt : k < n
    · obtain ⟨b, off, cap, ev, hbl, U0, hc, hr⟩ := HH.out.2.1.at' (by have := HH.out.2.2.2.2; omega)
      rw [← HH.out.2.2.2.2] at ev
      simp only [Value.slice.injEq] at ev
      obtain ⟨rfl, em2, rfl⟩ := ev
      clear em2
      have e0 := HH.out.2.2.2.2
      have hck := hc k (by omega)
      obtain ⟨uk, euk⟩ : ∃ u, u = U0 k := ⟨_, rfl⟩
      have hrk := (hr k (by omega)).below bw
      rw [← euk] at hck hrk
      obtain ⟨o, eo⟩ : ∃ o, o = R.getD k default := ⟨_, rfl⟩
      have hdk := HH.out.2.2.1 k (by omega)
      have hbk := HH.out.2.2.2.1 k
      rw [← eo] at hck hrk hdk hbk
      have c0 : wr.cell? ⟨b, off + k * 4, none⟩ = some (.int .i64 o.f0) := (bw.cell (p := ⟨b, off + (k * 4 + 0), none⟩) hbl).trans (hck 0 (by omega))
      have c1' : wr.cell? ⟨b, off + k * 4 + 1, none⟩ = some (.int .i64 o.f1) := (bw.cell (p := ⟨b, off + (k * 4 + 1), none⟩) hbl).trans (hck 1 (by omega))
      have c2' : wr.cell? ⟨b, off + k * 4 + 2, none⟩ = some (.int .i64 o.f2) := (bw.cell (p := ⟨b, off + (k * 4 + 2), none⟩) hbl).trans (hck 2 (by omega))
      have c3' : wr.cell? ⟨b, off + k * 4 + 3, none⟩ = some uk := (bw.cell (p := ⟨b, off + (k * 4 + 3), none⟩) hbl).trans (hck 3 (by omega))
      have hI := prunP_inv srv R HH.out.2.2.2.1 k
      have C := doP x c1 c2 c3 w.heap.size (prunP srv R k) o uk k wr P hI (by omega) hrk hdk bw.size hbk
      have hI1 := prunP_inv srv R HH.out.2.2.2.1 (k + 1)
      obtain ⟨S, eS⟩ : ∃ S, S = pstep (prunP srv R k) o := ⟨_, rfl⟩
      have eP : prunP srv R (k + 1) = S.1 := by rw [eS, eo]; rfl
      have eO : pobsAt srv R k = pobs S := by rw [eS, eo]; rfl
      rw [← eS] at C
      rw [eP] at hI1
      obtain ⟨ua, uc, eu⟩ := hrk.form
      obtain ⟨un, eun⟩ : ∃ un, un = o.d.length := ⟨_, rfl⟩
      rw [← eun] at eu
      obtain ⟨la, lc, el⟩ := G.row.form
      obtain ⟨ln, eln⟩ : ∃ ln, ln = (SPathObs.L ((List.range k).map (pobsAt srv R))).length := ⟨_, rfl⟩
      rw [← eln] at el
      have H4 : Hid _ := And.intro C (And.intro G (And.intro P (And.intro bw (And.intro hI1 (And.intro eP (And.intro eO el))))))
      clear C hck hrk hc hr euk eo eun e0 hdk hbk hI eS G P bw hI1 eP eO eln
      obtain ⟨x0, x1, x2, x3⟩ := o
      subst eu
      dsimp only at *
      obtain ⟨m2, cd, an⟩ := S
      dsimp only at H4
      go_wp2_with fail
      go_at_call 15
      refine H4.out.1.mono ?_
      rintro e w2 ⟨rfl, P2, C2⟩
      have G2 := gown_chg H4.out.2.2.1 H4.out.2.1 C2
      have b2 := H4.out.2.2.2.1.trans (C2.toBelow H4.out.2.2.2.1.size)
      obtain ⟨wv, Z, M2⟩ := id P2
      obtain ⟨d0, d1, d2, d3, d4, d5⟩ := M2.cells
      have ha2 := H4.out.2.2.2.2.1.ad
      have v3 := M2.r3.cell m2.ad ha2
      have hx2 := (Array.getElem?_eq_some_iff.1 M2.bk).1
      have hc2 := M2.r3.lt
      have na : ∀ (A : Array Value) (b o : Nat), b < w2.heap.size → (w2.alloc (.cells A 41)).cell? ⟨b, o, none⟩ = w2.cell? ⟨b, o, none⟩ := fun A b o hb => World.cell?_of_block (a := ⟨b, o, none⟩) (heap_alloc_old w2 _ hb)
      have d1' := fun A => (na A x 1 hx2).trans d1
      have d4' := fun A => (na A x 4 hx2).trans d4
      have v3' := fun A => (na A c3 m2.ad hc2).trans v3
      have CM : ∀ W : World, Below w2.heap.size w2 W → Calls Try.prog 16 #[.pointer (some ⟨x, 0, none⟩)] W fun e w' => e = .returned (.int .i64 m2.may) ∧ ∃ n, w' = W.drewN n := fun W hW => mayM x c1 c2 c3 w.heap.size m2 wv Z (k + 1) W (M2.below hW) H4.out.2.2.2.2.1 (by omega)
      have H5 : Hid _ := And.intro G2 (And.intro b2 (And.intro P2 CM))
      obtain ⟨ad, ead⟩ : ∃ ad, ad = m2.ad := ⟨_, rfl⟩
      obtain ⟨tv, etv⟩ : ∃ t, t = m2.va m2.ad := ⟨_, rfl⟩
      rw [← etv] at v3 v3'
      rw [← ead] at v3 v3' d1 d1' ha2
      have hadI : (ad : Int) < 256 := by omega
      have HE : Hid _ := And.intro ead etv
      clear G2 b2 P2 C2 M2 CM na d0 d2 d3 d5 ead etv
      go_wp2_with fail
      go_region
      go_wp2_with fail
      go_at_call 16
      refine (H5.out.2.2.2 _ (below_drewN ((Below.refl _ _).alloc (Nat.le_refl _) _) 1)).mono ?_
      rintro e w3 ⟨rfl, q3, rfl⟩
      obtain ⟨mm, emm⟩ : ∃ mm, mm = m2.may := ⟨_, rfl⟩
      rw [← emm]
      have HMM : Hid _ := emm
      have hel := H4.out.2.2.2.2.2.2.2
      have GG := H5.out.1
      rw [hel] at GG
      have HG : Hid _ := And.intro GG True.intro
      obtain ⟨Wp, eWp⟩ : ∃ Wp, Wp = ((w2.alloc (.cells #[.int .i64 cd, .int .i64 (ad : Int), .int .i64 0, .bool tv, .bool an] 41)).drewN (1 + q3)).setCell ⟨w2.heap.size, 2, none⟩ (.int .i64 mm) := ⟨_, rfl⟩
      have bWp : Below w2.heap.size w2 Wp := by rw [eWp]; exact (below_drewN ((Below.refl _ _).alloc (Nat.le_refl _) _) (1 + q3)).setCell (p := ⟨w2.heap.size, 2, none⟩) (Nat.le_refl _) _
      have sWp : Wp.heap.size = w2.heap.size + 1 := by rw [eWp, setCell_size]; exact (by simp : (w2.alloc (.cells #[.int .i64 cd, .int .i64 (ad : Int), .int .i64 0, .bool tv, .bool an] 41)).heap.size = w2.heap.size + 1)
      have bWx : Below w2.heap.size w2 (Wp.alloc (.cells #[.int .i64 cd, .int .i64 (ad : Int), .int .i64 mm, .bool tv, .bool an] 41)) := bWp.alloc (by omega) _
      have hWx : (Wp.alloc (.cells #[.int .i64 cd, .int .i64 (ad : Int), .int .i64 mm, .bool tv, .bool an] 41)).heap[w2.heap.size + 1]? = some (.cells [Value.int .i64 cd, .int .i64 (ad : Int), .int .i64 mm, .bool tv, .bool an].toArray 41 (0, 0)) := by rw [← sWp]; exact heap_alloc_new _ _
      have HX : Hid _ := And.intro bWx hWx
      rw [eWp] at HX
      clear emm hel GG eWp bWp sWp bWx hWx
      go_wp2_with (at_builtin; refine wpList_append_flat rfl (.tmp 48) (.tmp 50) 24 41 Try.underlying24 _ 5 32 infoPathObs rfl (by decide) (by decide) rfl w.heap.size (.slice la ln lc) (SPathObs.L ((List.range k).map (pobsAt srv R))) (obs_flat _) rfl (HG.out.1.below HX.out.1) _ [[.int .i64 cd, .int .i64 (ad : Int), .int .i64 mm, .bool tv, .bool an]] (by intro y hy; obtain rfl : y = [.int .i64 cd, .int .i64 (ad : Int), .int .i64 mm, .bool tv, .bool an] := (by simpa using hy); exact ⟨rfl, by intro v hv; simp only [List.mem_cons, List.not_mem_nil, or_false] at hv; rcases hv with rfl | rfl | rfl | rfl | rfl <;> rfl⟩) rfl (litQ HX.out.2 5 rfl) (by rw [List.length_map, List.length_map, List.length_range, List.length_singleton]; omega) (Nat.le_trans H5.out.2.1.size HX.out.1.size) ?_; intro v6 w6 o6 g6; have H6 : Hid _ := And.intro o6 g6; clear o6 g6)
      go_roundg (n - (k + 1))
      case measure => omega
      case rel =>
        obtain ⟨wv5, Z5, M5⟩ := H5.out.2.2.1
        have hel := H4.out.2.2.2.2.2.2.2
        have GB := gown_blk (HG.out.1.below HX.out.1)
        have CO : ChS (fun _ => False) 41 w.heap.size _ w6 := ChS.of_grown H6.out.2 GB
        have e1 : (List.range (k + 1)).map (pobsAt srv R) = (List.range k).map (pobsAt srv R) ++ [pobs (m2, cd, an)] := by rw [List.range_succ, List.map_append, ← H4.out.2.2.2.2.2.2.1]; rfl
        have e2 : SPathObs.L [pobs (m2, cd, an)] = [[.int .i64 cd, .int .i64 (ad : Int), .int .i64 mm, .bool tv, .bool an]] := by rw [HE.out.1, HE.out.2, HMM.out]; rfl
        refine ⟨k + 1, by omega, rfl, by go_num, ?_, ⟨_, _, by rw [H4.out.2.2.2.2.2.1]; exact (M5.below HX.out.1).grownO CO⟩, ?_⟩
        · rw [e1, show SPathObs.L ((List.range k).map (pobsAt srv R) ++ [pobs (m2, cd, an)]) = SPathObs.L ((List.range k).map (pobsAt srv R)) ++ SPathObs.L [pobs (m2, cd, an)] from List.map_append, e2]
          exact H6.out.1
        · exact (H5.out.2.1.trans (HX.out.1.mono H5.out.2.1.size)).grown H6.out.2 (Nat.le_trans H5.out.2.1.size HX.out.1.size) (fun q hq => (GB q hq).1)
    · obtain rfl : k = n := by omega
      have HF : Hid _ := And.intro G bw
      obtain ⟨la, lc, el⟩ := G.row.form
      obtain ⟨ln, eln⟩ : ∃ ln, ln = (SPathObs.L ((List.range k).map (pobsAt srv R))).length := ⟨_, rfl⟩
      rw [← eln] at el
      clear G bw P eln
      subst el
      go_wp2_with fail
      go_ret2
      exact ⟨_, rfl, HF.out.1, HF.out.2⟩
end Go.Proofs.Ytjikdecfampbiaa
