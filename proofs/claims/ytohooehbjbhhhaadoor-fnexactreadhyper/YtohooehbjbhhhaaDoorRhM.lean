import Derived.Test.YtohooehbjbhhhaaDoorRhL
import Derived.Deep.QuietTactic
import Derived.Deep.RegionHeld3
namespace Go.Proofs.YtohooehbjbhhhaaDoor
open Go.RowKit
set_option linter.unusedVariables false

set_option maxRecDepth 20000 in
theorem restS_sh (g : Nat) (ao : Option Addr) (n cap : Nat) (p : Int) (w : World) (h : srB w g (.slice ao n cap) p true) (hp : 0 ≤ p ∧ p ≤ n) (hn : n ≤ 9223372036854775807) :
    Calls Tryd.prog 14 #[.pointer (some ⟨g, 0, none⟩)] w fun e w' => ∃ q, e = .returned (.slice (some ⟨q, 0, none⟩) 0 0) ∧ srB w' g (.slice ao n cap) p true ∧ Chg (· = g) w w' := by
  have T := takeS_no g ao n cap p ((n : Int) - p) true w.drew h hp hn (Or.inl rfl)
  have c0 := h.c0
  have c1 := h.c1
  have hw : IntKind.i64.wrap ((n : Int) - p) = (n : Int) - p := by rw [IntKind.wrap_i64]; omega
  have HT : Hid _ := And.intro T True.intro
  clear T h
  go_enter Tryd.func14, Tryd.ntmps14
  go_wp2_with fail
  go_region_with (go_at_call 13; refine HT.out.1.mono ?_; rintro e w2 ⟨q, rfl, hq, o2, r2, c2⟩; have H2 : Hid _ := And.intro r2 c2; clear o2 r2 c2)
  all_goals (go_wp2_with fail; go_ret; exact ⟨q, rfl, H2.out.1, (Chg.refl _ w).drew.trans H2.out.2⟩)
theorem res_no (xs : List Int) (p m Q2 : Nat) (K : Int) (ys : List Int) (h1 : varOK xs p) (h2 : varOK xs (varN xs p)) (em : varV xs (varN xs p) = (m : Int)) (eQ2 : varN xs (varN xs p) = Q2) (hbig : ¬ 16384 < m) (hfit : Q2 + m ≤ xs.length) (eK : K = varV xs p) (ey : ys = sub xs Q2 m) :
    rhT xs p = match rhF K ys with | none => .error 3 | some f => if hyP f.k f.a f.d.length f.s then .ok (f, Q2 + m) else .error 3 := by
  have := rhT_5 xs p h1 h2 (by rw [em]; omega) (by rw [em, eQ2]; omega)
  rw [em, eQ2, Int.toNat_natCast, ← eK, ← ey] at this
  exact this
/-- The whole answer where there is a place. -/
def rhV (r : Except Int (HF × Nat)) : HF × Int × Int := match r with | .error c => (zHF, 0, c) | .ok (f, q) => (f, (q : Int), 0)
theorem res_bad {xs : List Int} {p : Nat} {f : HF} {q : Nat} (h : rhT xs p = if hyP f.k f.a f.d.length f.s then .ok (f, q) else .error 3) (hn : ¬ hyP f.k f.a f.d.length f.s) : rhV (rhT xs p) = (zHF, 0, 3) := by
  rw [h, if_neg hn]; rfl
theorem res_good {xs : List Int} {p : Nat} {f : HF} {q : Nat} (h : rhT xs p = if hyP f.k f.a f.d.length f.s then .ok (f, q) else .error 3) (hn : hyP f.k f.a f.d.length f.s) : rhV (rhT xs p) = (f, (q : Int), 0) := by
  rw [h, if_pos hn]; rfl
set_option maxRecDepth 20000 in
set_option maxHeartbeats 4000000 in
theorem rhS_c (b off n cap p : Nat) (xs : List Int) (w : World) (hl : Lies w b off n cap xs) (hB : Bytes xs) (hn : n ≤ 65536) (hp : p ≤ n) (hv : varOK xs p) (hv2 : varOK xs (varN xs p)) (m Q2 : Nat) (em : varV xs (varN xs p) = (m : Int)) (eQ2 : varN xs (varN xs p) = Q2) (hbig : ¬ 16384 < m) (hfit : Q2 + m ≤ n) (h4 : varV xs p ≠ 4) (h7 : ¬ (varV xs p = 7 ∨ varV xs p = 15)) :
    Calls Tryd.prog 4 #[.slice (some ⟨b, off, none⟩) n cap, .int .i64 (p : Int)] w fun e w' => RhA' w.heap.size e w' (rhV (rhT xs p)) ∧ Below w.heap.size w w' := by
  have hRT := res_no xs p m Q2 (varV xs p) (sub xs Q2 m) hv hv2 em eQ2 hbig (by have := hl.len; omega) rfl rfl
  obtain ⟨h1, h2, h3⟩ := rsW_facts w (p : Int) (some ⟨b, off, none⟩) n cap
  have hbl := hl.lt
  have V1 := variableS_ok (w.heap.size + 1) b off n cap p xs _ h2 (hl.below h3) hB hn hv
  have hlen := hl.len
  have hb1 := varN_bd xs p hv
  have LI : ∀ u, Chg (· = w.heap.size + 1) (rsW w (p : Int) (some ⟨b, off, none⟩) n cap) u → Lies u b off n cap xs := fun u hc => (hl.below h3).chg hc (by omega)
  have hd1 : ¬ (65536 : Int) < (n : Int) := by omega
  have hd2 : ¬ (p : Int) < 0 := by omega
  have hd3 : ¬ (n : Int) < (p : Int) := by omega
  obtain ⟨K, eK⟩ : ∃ K, K = varV xs p := ⟨_, rfl⟩
  rw [← eK] at V1
  have HH : Hid _ := And.intro V1 (And.intro LI (And.intro hB (And.intro eK (And.intro hv hb1))))
  clear V1 h1 h2 h3 hl hB eK LI hv
  rw [← HH.out.2.2.2.1] at hRT h4 h7
  have hbg : ¬ (16384 : Int) < (m : Int) := by omega
  go_enter Tryd.func4, Tryd.ntmps4
  go_wp2_with fail
  go_at_call 12
  refine HH.out.1.mono ?_
  rintro e w2 ⟨rfl, r2, c2⟩
  have C3 : Chg (· = w.heap.size + 1) (rsW w (p : Int) (some ⟨b, off, none⟩) n cap) (w2.alloc (.cells #[.int .i64 K, .int .i64 0, .slice none 0 0, .slice none 0 0] 25)) := c2.trans (Chg.of_below ((Below.refl _ _).alloc (Nat.le_refl _) _))
  have R3 : srB (w2.alloc (.cells #[.int .i64 K, .int .i64 0, .slice none 0 0, .slice none 0 0] 25)) (w.heap.size + 1) (.slice (some ⟨b, off, none⟩) n cap) ((varN xs p : Nat) : Int) false := r2.below ((Below.refl _ _).alloc (Nat.le_refl _) _)
  have F3 : fB (w2.alloc (.cells #[.int .i64 K, .int .i64 0, .slice none 0 0, .slice none 0 0] 25)) w2.heap.size K 0 (.slice none 0 0) (.slice none 0 0) := heap_alloc_new w2 _
  have hgF : w2.heap.size ≠ w.heap.size + 1 := by have := r2.lt; omega
  have hzF : w.heap.size + 2 ≤ w2.heap.size := by have := r2.lt; omega
  have H3 : Hid _ := And.intro C3 (And.intro R3 F3)
  clear C3 R3 F3 r2 c2
  have V2 := variableS_ok (w.heap.size + 1) b off n cap (varN xs p) xs _ H3.out.2.1 (HH.out.2.1 _ H3.out.1) HH.out.2.2.1 hn hv2
  rw [em, eQ2] at V2
  go_wp2_with fail
  go_at_call 12
  refine V2.mono ?_
  rintro e w4 ⟨rfl, r4, c4⟩
  have s4 := r4.c2
  have C4 := H3.out.1.trans c4
  have T4 := takeS_ok (w.heap.size + 1) b off n cap Q2 m xs w4 r4 (HH.out.2.1 _ C4) (by omega) hn hfit
  have F4 := H3.out.2.2.chg c4 hgF
  have H4 : Hid _ := And.intro C4 (And.intro T4 F4)
  have hys := sub_bytes HH.out.2.2.1 Q2 m
  have hyl : (sub xs Q2 m).length = m := sub_len xs Q2 m (by omega)
  have hKe : K = varV xs p := HH.out.2.2.2.1
  obtain ⟨ys, eys⟩ : ∃ ys, ys = sub xs Q2 m := ⟨_, rfl⟩
  rw [← eys] at hys hyl H4 hRT 
  have HY : Hid _ := And.intro hys (And.intro hyl (And.intro hKe eys))
  clear C4 V2 c4 r4 em eQ2 T4 F4 hys hyl hKe eys
  go_wp2_with fail
  go_at_call 13
  refine H4.out.2.1.mono ?_
  rintro e w5 ⟨v, rfl, o5, r5, c5⟩
  obtain ⟨va, vc, rfl, pay5, hvl⟩ := pay_of_owns o5
  have b6 : Below w5.heap.size w5 (w5.alloc (.cells #[.slice va m vc, .int .i64 0, .bool false] 36)) := (Below.refl _ _).alloc (Nat.le_refl _) _
  have C6 : Chg (· = w.heap.size + 1) (rsW w (p : Int) (some ⟨b, off, none⟩) n cap) (w5.alloc (.cells #[.slice va m vc, .int .i64 0, .bool false] 36)) := (H4.out.1.trans c5).trans (Chg.of_below b6)
  obtain ⟨K6, B6⟩ := rs_R C6
  have R6 := r5.below b6
  have F6 : fB (w5.alloc (.cells #[.slice va m vc, .int .i64 0, .bool false] 36)) w2.heap.size K 0 (.slice none 0 0) (.slice none 0 0) := (H4.out.2.2.chg c5 hgF).chg (S := fun _ => False) (Chg.of_below b6) (fun h => h)
  have G6 : srB (w5.alloc (.cells #[.slice va m vc, .int .i64 0, .bool false] 36)) w5.heap.size (.slice va m vc) 0 false := heap_alloc_new w5 _
  have P6 : Pay (w5.alloc (.cells #[.slice va m vc, .int .i64 0, .bool false] 36)) va m vc ys := pay5.chg (S := fun _ => False) (Chg.of_below b6) (fun _ _ _ h => h)
  have hz5 : w2.heap.size < w5.heap.size := by have h1 := H4.out.2.2.lt; have h2 := c5.size; omega
  have hoff : Off va (SG w5.heap.size w2.heap.size) := fun b' off' e h => by
    have h1 := hvl b' off' e
    have h2 := H4.out.2.2.lt
    rcases h with h | h <;> omega
  have hg5 : w.heap.size + 1 < w5.heap.size := by have := r5.lt; exact this
  have hsz6 : w5.heap.size < (w5.alloc (.cells #[.slice va m vc, .int .i64 0, .bool false] 36)).heap.size := by simp
  have s6 := R6.c2
  have k6 := F6.c0
  have H6 : Hid _ := And.intro K6 (And.intro B6 (And.intro R6 (And.intro F6 (And.intro G6 (And.intro P6 hoff)))))
  clear K6 B6 R6 F6 G6 P6 hoff o5 r5 c5 pay5 hvl b6 C6 s4
  have d4 : (K == 4) = false := by simp [h4]
  have d7 : (K == 7) = false := by simp; exact fun e => h7 (Or.inl e)
  have d15 : (K == 15) = false := by simp; exact fun e => h7 (Or.inr e)
  have hF : rhF K ys = some ⟨K, 0, ys, []⟩ := by unfold rhF; rw [if_neg h4, if_neg h7]
  rw [hF] at hRT
  simp only at hRT
  have RT := restSP w5.heap.size va m vc 0 ys _ H6.out.2.2.2.2.1 H6.out.2.2.2.2.2.1 (fun b' off' e h => H6.out.2.2.2.2.2.2 b' off' e (Or.inl h)) (by omega) (by omega)
  rw [List.drop_zero] at RT
  have HR : Hid _ := And.intro RT hRT
  clear RT hRT hF h4 h7
  go_wp2_with fail
  go_at_call 14
  refine HR.out.1.mono ?_
  rintro e w7 ⟨vd, rfl, o7, r7, c7⟩
  obtain ⟨da, dc, ed⟩ := (row_of_owns o7).form
  have hLy := HY.out.2.1
  have ed2 : vd = .slice da m dc := by rw [ed, hLy]
  clear ed
  subst ed2
  have hzw : w.heap.size < (w5.alloc (.cells #[.slice va m vc, .int .i64 0, .bool false] 36)).heap.size := by have := H6.out.2.1.size; simp at this ⊢; omega
  have F7 := H6.out.2.2.2.1.chg c7 (by omega)
  have K7 := (c7.block w.heap.size hzw (by omega)).trans H6.out.1
  have B7 : Below w.heap.size w w7 := H6.out.2.1.trans (c7.below H6.out.2.1.size (fun k hk => by omega))
  have R7 := H6.out.2.2.1.chg c7 (by omega)
  have f2 := F7.c2
  have ff2 := F7.fr 2
  have hz7 := c7.size
  have HLN : Hid (m ≤ 65536 ∧ ([] : List SSetting).length = 0) := ⟨by omega, rfl⟩
  have H7 : Hid _ := And.intro K7 (And.intro B7 (And.intro R7 (And.intro F7 (And.intro r7 o7))))
  clear K7 B7 R7 F7 r7 o7 c7 hLy
  go_upto_region 24 with fail
  have tR : (w7.setCell ⟨w2.heap.size, 2, none⟩ (.slice da m dc)).heap[w.heap.size]? = some zfO := (bk_other (by omega) 2 _).trans H7.out.1
  have tB : Below w.heap.size w (w7.setCell ⟨w2.heap.size, 2, none⟩ (.slice da m dc)) := H7.out.2.1.setCell (by simp; omega) _
  have tg : srB (w7.setCell ⟨w2.heap.size, 2, none⟩ (.slice da m dc)) (w.heap.size + 1) (.slice (some ⟨b, off, none⟩) n cap) ((Q2 + m : Nat) : Int) false := (bk_other (by omega) 2 _).trans H7.out.2.2.1
  have tG : srB (w7.setCell ⟨w2.heap.size, 2, none⟩ (.slice da m dc)) w5.heap.size (.slice va m vc) (m : Int) false := (bk_other (by omega) 2 _).trans H7.out.2.2.2.2.1
  have tF : fB (w7.setCell ⟨w2.heap.size, 2, none⟩ (.slice da m dc)) w2.heap.size K 0 (.slice da m dc) (.slice none 0 0) := H7.out.2.2.2.1.set2 _
  have l0 := tG.c0
  have l1 := tG.c1
  have l2 := tG.c2
  have m0 := tF.c0
  have m1 := tF.c1
  have m2 := tF.c2
  have m3 := tF.c3
  have hmm : ((m : Int) != (m : Int)) = false := by simp
  have HO := hokS K 0 da m dc (.slice none 0 0) [] (w7.setCell ⟨w2.heap.size, 2, none⟩ (.slice da m dc)).drew ((GOwns.nil 40 2 (w7.setCell ⟨w2.heap.size, 2, none⟩ (.slice da m dc)) (w5.alloc (.cells #[.slice va m vc, .int .i64 0, .bool false] 36)).heap.size)).row (by have := HLN.out; omega) (by have := HLN.out; omega)
  obtain ⟨ok, eok⟩ : ∃ ok, ok = decide (hyP K 0 m []) := ⟨_, rfl⟩
  rw [← eok] at HO
  have KK : Hid (∀ u, Below (w7.setCell ⟨w2.heap.size, 2, none⟩ (.slice da m dc)).drew.heap.size (w7.setCell ⟨w2.heap.size, 2, none⟩ (.slice da m dc)).drew u → u.heap[w.heap.size]? = some zfO ∧ Below w.heap.size w u ∧ srB u (w.heap.size + 1) (.slice (some ⟨b, off, none⟩) n cap) ((Q2 + m : Nat) : Int) false ∧ fB u w2.heap.size K 0 (.slice da m dc) (.slice none 0 0)) := fun u hu =>
    ⟨(hu.block w.heap.size (Array.getElem?_eq_some_iff.1 tR).1).trans tR, tB.trans (((below_drewN (Below.refl _ _) 1).trans hu).mono tB.size), (hu.block _ tg.lt).trans tg, (hu.block _ tF.lt).trans tF⟩
  have KG : Hid (∀ u, Below (w7.setCell ⟨w2.heap.size, 2, none⟩ (.slice da m dc)).drew.heap.size (w7.setCell ⟨w2.heap.size, 2, none⟩ (.slice da m dc)).drew u → u.cell? ⟨w5.heap.size, 0, none⟩ = some (.slice va m vc) ∧ u.cell? ⟨w5.heap.size, 1, none⟩ = some (.int .i64 (m : Int)) ∧ u.cell? ⟨w5.heap.size, 2, none⟩ = some (.bool false)) := fun u hu => by
    have q : srB u w5.heap.size (.slice va m vc) (m : Int) false := (hu.block _ tG.lt).trans tG
    exact ⟨q.c0, q.c1, q.c2⟩
  have HT : Hid _ := And.intro HO eok
  clear tR tB tg tG tF HO eok
  cases ok with
  | false =>
    have HRes : Hid _ := And.intro ((fun e => res_bad (f := ⟨K, 0, ys, []⟩) HR.out.2 (by show ¬ hyP K 0 ys.length []; rw [HY.out.2.1]; exact of_decide_eq_false e.symm)) HT.out.2) True.intro
    go_wp2_with fail
    go_region_held3 (fun w' => w'.cell? ⟨w5.heap.size, 0, none⟩ = some (.slice va m vc) ∧ w'.cell? ⟨w5.heap.size, 1, none⟩ = some (.int .i64 (m : Int)) ∧ w'.cell? ⟨w5.heap.size, 2, none⟩ = some (.bool false) ∧ w'.cell? ⟨w2.heap.size, 0, none⟩ = some (.int .i64 K) ∧ w'.cell? ⟨w2.heap.size, 1, none⟩ = some (.int .i64 0) ∧ w'.cell? ⟨w2.heap.size, 2, none⟩ = some (.slice da m dc) ∧ w'.cell? ⟨w2.heap.size, 3, none⟩ = some (.slice none 0 0)) (go_keep)
      (first | (go_at_call 15; refine HT.out.1.mono ?_; rintro e wy ⟨rfl, by'⟩; obtain ⟨t0, t1, t2⟩ := KG.out wy by'; obtain ⟨u1, u2, u3, u4⟩ := KK.out wy by'; have v0 := u4.c0; have v1 := u4.c1; have v2 := u4.c2; have v3 := u4.c3; have HX : Hid _ := And.intro u1 (And.intro u2 (And.intro by' (And.intro u3 u4))); clear by' u1 u2 u3 u4))
    all_goals
      obtain ⟨z0, z1, z2, z3, y0, y1, y2, y3⟩ := z4 (HX.out.1)
      have HZ : Hid _ := And.intro (HX.out.2.1) (HX.out.1)
      go_wp2_with fail
      refine bodyPost_ret (v := .tuple #[.agg #[.int .i64 0, .int .i64 0, .slice none 0 0, .slice none 0 0], .int .i64 0, .int .i64 3]) ?_ rfl ?_
      · refine results_row_tmp2R (t := 25) rfl _ _ w.heap.size _ (fr := (0, 0)) _ _ _ rfl rfl rfl ?_ Tryd.underlying25 rfl infoHF
        exact st4_heap (w := wy) HZ.out.2
      · rw [HRes.out.1]
        exact ⟨⟨.slice none 0 0, .slice none 0 0, rfl, World.ownsRow_nil _ _ _ _, GOwns.nil _ _ _ _, fun j h => by cases h⟩, ((((HZ.out.1).setCell (by simp) _).setCell (by simp) _).setCell (by simp) _).setCell (by simp) _⟩
  | true =>
    have HRes : Hid _ := And.intro ((fun e => res_good (f := ⟨K, 0, ys, []⟩) HR.out.2 (by show hyP K 0 ys.length []; rw [HY.out.2.1]; exact of_decide_eq_true e.symm)) HT.out.2) True.intro
    go_wp2_with fail
    go_region_held3 (fun w' => w'.cell? ⟨w5.heap.size, 0, none⟩ = some (.slice va m vc) ∧ w'.cell? ⟨w5.heap.size, 1, none⟩ = some (.int .i64 (m : Int)) ∧ w'.cell? ⟨w5.heap.size, 2, none⟩ = some (.bool false) ∧ w'.cell? ⟨w2.heap.size, 0, none⟩ = some (.int .i64 K) ∧ w'.cell? ⟨w2.heap.size, 1, none⟩ = some (.int .i64 0) ∧ w'.cell? ⟨w2.heap.size, 2, none⟩ = some (.slice da m dc) ∧ w'.cell? ⟨w2.heap.size, 3, none⟩ = some (.slice none 0 0)) (go_keep)
      (first | (go_at_call 15; refine HT.out.1.mono ?_; rintro e wy ⟨rfl, by'⟩; obtain ⟨t0, t1, t2⟩ := KG.out wy by'; obtain ⟨u1, u2, u3, u4⟩ := KK.out wy by'; have v0 := u4.c0; have v1 := u4.c1; have v2 := u4.c2; have v3 := u4.c3; have HX : Hid _ := And.intro u1 (And.intro u2 (And.intro by' (And.intro u3 u4))); clear by' u1 u2 u3 u4))
    all_goals
      obtain ⟨z0, z1, z2, z3, y0, y1, y2, y3⟩ := z4 HX.out.1
      have q1 := HX.out.2.2.2.1.c1
      have n0 := HX.out.2.2.2.2.c0
      have n1 := HX.out.2.2.2.2.c1
      have n2 := HX.out.2.2.2.2.c2
      have n3 := HX.out.2.2.2.2.c3
      go_wp2_with fail
      go_region
      all_goals
        go_wp2_with fail
        refine bodyPost_ret (v := .tuple #[.agg #[.int .i64 K, .int .i64 0, .slice da m dc, (.slice none 0 0)], .int .i64 ((Q2 + m : Nat) : Int), .int .i64 0]) ?_ rfl ?_
        · refine results_row_tmp2R (t := 25) rfl _ _ w.heap.size _ (fr := (0, 0)) _ _ _ rfl rfl rfl ?_ Tryd.underlying25 rfl infoHF
          exact st4_heap (w := wy.drew) HX.out.1
        · rw [HRes.out.1]
          have bxy : Below (w7.setCell ⟨w2.heap.size, 2, none⟩ (.slice da m dc)).heap.size (w7.setCell ⟨w2.heap.size, 2, none⟩ (.slice da m dc)) wy.drew := below_drewN ((below_drewN (Below.refl (w7.setCell ⟨w2.heap.size, 2, none⟩ (.slice da m dc)).heap.size (w7.setCell ⟨w2.heap.size, 2, none⟩ (.slice da m dc))) 1).trans HX.out.2.2.1) 1
          refine ⟨⟨_, _, rfl, ?_, ?_, fun j _ e => by cases e⟩, (((Below.setCell (below_drewN HX.out.2.1 1) (by simp) _).setCell (by simp) _).setCell (by simp) _).setCell (by simp) _⟩
          · have oD := owns_below (show (w7.setCell ⟨w2.heap.size, 2, none⟩ (.slice da m dc)).ownsRow (w5.alloc (.cells #[.slice va m vc, .int .i64 0, .bool false] 36)).heap.size 5 1 (.slice da m dc) ys.length (ys.map (Value.int .u8)) from own_setH H7.out.2.2.2.2.2 (by omega)) bxy
            exact owns_mono (own_setH (own_setH (own_setH (own_setH oD (by omega)) (by omega)) (by omega)) (by omega)) (by omega)
          · have oS := ((GOwns.nil 40 2 (w7.setCell ⟨w2.heap.size, 2, none⟩ (.slice da m dc)) (w5.alloc (.cells #[.slice va m vc, .int .i64 0, .bool false] 36)).heap.size)).below bxy
            exact (gown_setH (gown_setH (gown_setH (gown_setH oS (by omega)) (by omega)) (by omega)) (by omega)).mono (by omega)
end Go.Proofs.YtohooehbjbhhhaaDoor
