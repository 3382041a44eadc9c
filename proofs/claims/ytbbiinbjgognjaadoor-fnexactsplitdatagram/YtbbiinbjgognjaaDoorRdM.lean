import Derived.Test.YtbbiinbjgognjaaDoorRdL
namespace Go.Proofs.YtbbiinbjgognjaaDoor
open Go.RowKit
set_option linter.unusedVariables false

theorem Tab.chg {w w' : World} {S : Nat → Prop} (h : Tab w) (hc : Chg S w w') (hs : ¬ S 2) : Tab w' := by
  have e := hc.block _ h.lt hs
  exact ⟨by rw [← h.c0]; simp only [World.cell?, e], by rw [← h.c1]; simp only [World.cell?, e], by rw [← h.c2]; simp only [World.cell?, e], by rw [← h.c3]; simp only [World.cell?, e]⟩
theorem TabL.chg {w w' : World} {S : Nat → Prop} (h : TabL w) (hc : Chg S w w') (hs : ¬ S 1) : TabL w' := by
  have e := hc.block _ h.lt hs
  exact ⟨by rw [← h.t0]; simp only [World.cell?, e], by rw [← h.t1]; simp only [World.cell?, e], by rw [← h.t2]; simp only [World.cell?, e], by rw [← h.t3]; simp only [World.cell?, e]⟩
theorem Chg.ownsG {g pb B e n : Nat} {w w' : World} {v : Value} {xs : List Value} (h : Chg (SG g pb) w w') (ho : w.ownsRow B e 1 v n xs) (hg : g < B) (hp : pb < B) : w'.ownsRow B e 1 v n xs :=
  h.owns ho fun k hk hs => by have h1 := (ho.lt k hk).1; rcases hs with h | h <;> omega
theorem apart_of {w1 w2 : World} {b1 b2 e1 e2 n1 n2 : Nat} {v1 v2 : Value} {xs1 xs2 : List Value} (h1 : w1.ownsRow b1 e1 1 v1 n1 xs1) (h2 : w2.ownsRow b2 e2 1 v2 n2 xs2) (hb : w1.heap.size ≤ b2) : Apart v1 v2 :=
  fun g hg e => owns_apart h1 h2 hb g e hg.symm
theorem apart_nil (v : Value) : Apart v (.slice none 0 0) := fun g _ e => by cases e
theorem nil_apart (v : Value) : Apart (.slice none 0 0) v := fun g e => by cases e
/-- What is peeked, in the block pb, with rows of the call's own. -/
def LRes (base : Nat) (w' : World) (pb : Nat) (K : PK) : Prop := ∃ vd vs vt vv, pkB w' pb K.f K.v vd vs vt vv K.na K.fin ∧ HOwn w' base vd vs vt ⟨K.f, K.v, K.d, K.s, K.t, 0, 0, 0⟩ ∧
  w'.ownsRow base 3 1 vv K.vers.length (K.vers.map (Value.int .i64))
theorem sizeS (w : World) (a : Addr) (u : Value) : (w.setCell a u).heap.size = w.heap.size := by simp [World.setCell]
set_option maxRecDepth 20000 in
set_option maxHeartbeats 8000000 in
theorem longRC (g pb b off n cap : Nat) (xs : List Int) (first : Int) (w : World) (ht : Tab w) (hL : TabL w) (h : rdB w g (.slice (some ⟨b, off, none⟩) n cap) 1) (hk : pkB w pb 0 0 (.slice none 0 0) (.slice none 0 0) (.slice none 0 0) (.slice none 0 0) 0 0)
    (hl : Lies w b off n cap xs) (hB : Bytes xs) (hgb : b ≠ g) (hgp : pb ≠ g) (hbp : b ≠ pb) (hn : n ≤ 65536) (hp : 1 ≤ n) (hf0 : 0 ≤ first) (hf1 : first < 256) (hS1 : ¬ SG g pb 2) (hS2 : ¬ SG g pb 1) :
    Calls Tryd.prog 48 #[.pointer (some ⟨pb, 0, none⟩), .pointer (some ⟨g, 0, none⟩), .int .u8 first] w fun e w' => Chg (SG g pb) w w' ∧ ((∃ c, pkLong xs first = .error c ∧ e = .panicked [leftP c]) ∨
      ∃ K, pkLong xs first = .ok K ∧ e = .returned (.tuple #[]) ∧ LRes w.heap.size w' pb K) := by
  have hlen := hl.len
  have hbS : ¬ SG g pb b := fun hh => by rcases hh with hh | hh; exact hgb hh; exact hbp hh
  by_cases h5 : n < 5
  · have hc := number_no g (some ⟨b, off, none⟩) n cap 1 4 w h ⟨by omega, by omega⟩ (by omega) (by omega)
    have e : pkLong xs first = .error 2 := by unfold pkLong; rw [if_pos (by omega)]
    have HE : Hid _ := And.intro e True.intro
    clear h hl hB e hlen hk ht hL
    go_enter Tryd.func48, Tryd.ntmps48
    go_wp2_with fail
    go_at_call 45
    refine hc.mono ?_
    rintro e w1 ⟨rfl, c1⟩
    go_wp2_with fail
    exact ⟨rfl, c1.toG, Or.inl ⟨2, HE.out.1, rfl⟩⟩
  have hc := number_ok g b off n cap 1 4 xs w h hl hB hgb hn (by omega) (by decide) (by decide)
  have h5' : ¬ xs.length < 5 := by omega
  have HN : Hid _ := And.intro hlen (And.intro hgb (And.intro hgp (And.intro hbp (And.intro hn (And.intro h5' (And.intro hbS (And.intro hS1 (And.intro hS2 (And.intro hf0 hf1)))))))))
  have HM : Hid _ := And.intro ht (And.intro hL (And.intro hk (And.intro hl (And.intro hB (And.intro h.lt hk.lt)))))
  have hvb := numK_lt xs hB 1 4 (by decide)
  obtain ⟨V, hV⟩ : ∃ V, V = vals (sub xs 1 4) := ⟨_, rfl⟩
  rw [← hV] at hc hvb
  have HV : Hid _ := And.intro hV hvb
  clear h hl hB hlen hk ht hL hV hvb hgb hgp hbp hn h5' hbS hS1 hS2 hf0 hf1 h5 hp
  go_enter Tryd.func48, Tryd.ntmps48
  go_wp2_with fail
  go_at_call 45
  refine hc.mono ?_
  rintro e w1 ⟨rfl, r1, c1⟩
  clear hc
  have k1 := HM.out.2.2.1.chg c1 HN.out.2.2.1
  have x1 := k1.c_v
  have y1 := k1.fr 1
  have k2 := k1.set_v V
  have r2 := r1.other (i := 1) (u := .int .i64 V) HN.out.2.2.1
  have c2 := (c1.toG (pb := pb)).setP 1 (.int .i64 V)
  have l2 := HM.out.2.2.2.1.chg c2 HN.out.2.2.2.2.2.2.1
  have hcid := cidC g b off n cap (1 + 4) xs _ r2 l2 HM.out.2.2.2.2.1 HN.out.2.1 HN.out.2.2.2.2.1 (by have h1 := HN.out.1; have h2 := HN.out.2.2.2.2.2.1; omega)
  have HA : Hid _ := And.intro c2 k2
  clear k1 k2 r2 c2 l2 r1 c1
  go_wp2_with fail
  go_at_call 59
  refine hcid.mono ?_
  clear hcid x1 y1
  rintro e w2 ⟨c3, ⟨c, hce, rfl⟩ | ⟨d, p1, vd, hce, rfl, o3, r3, hp1, hq1, hd8⟩⟩
  · go_wp2_with fail
    exact ⟨rfl, HA.out.1.trans c3.toG, Or.inl ⟨c, pkLong_2 HN.out.2.2.2.2.2.1 hce, rfl⟩⟩
  have cA := HA.out.1.trans c3.toG
  have k3 := HA.out.2.chg c3 HN.out.2.2.1
  have x3 := k3.c_vd
  have y3 := k3.fr 2
  have k4 := k3.set_vd vd
  have r4 := r3.other (i := 2) (u := vd) HN.out.2.2.1
  have c4 := cA.setP 2 vd
  have l4 := HM.out.2.2.2.1.chg c4 HN.out.2.2.2.2.2.2.1
  have hcid := cidC g b off n cap p1 xs _ r4 l4 HM.out.2.2.2.2.1 HN.out.2.1 HN.out.2.2.2.2.1 hq1
  have ob : (w1.setCell ⟨pb, 1, none⟩ (.int .i64 V)).heap.size ≤ w2.heap.size := c3.size
  have o4 : w2.ownsRow w.heap.size 5 1 vd d.length (d.map (Value.int .u8)) := owns_mono o3 HA.out.1.size
  obtain ⟨va, vp, ev⟩ := (row_of_owns o3).form
  have HC : Hid _ := And.intro c4 (And.intro k4 (And.intro o4 (And.intro hce (And.intro hp1 (And.intro hq1 hd8)))))
  clear c3 hce o3 r3 hp1 hq1 hd8 cA k3 k4 r4 c4 l4 ob o4
  subst ev
  go_wp2_with fail
  go_at_call 59
  refine hcid.mono ?_
  clear hcid x3 y3
  rintro e w3 ⟨c5, ⟨c, hce, rfl⟩ | ⟨s, p2, vs, hce, rfl, o5, r5, hp2, hq2, hs8⟩⟩
  · go_wp2_with fail
    exact ⟨rfl, HC.out.1.trans c5.toG, Or.inl ⟨c, pkLong_3 HN.out.2.2.2.2.2.1 HC.out.2.2.2.1 hce, rfl⟩⟩
  have eL : pkLong xs first = pkTail xs first V d s p2 := by rw [HV.out.1]; exact pkLong_4 HN.out.2.2.2.2.2.1 HC.out.2.2.2.1 hce
  have cB := HC.out.1.trans c5.toG
  have k5 := HC.out.2.1.chg c5 HN.out.2.2.1
  have x5 := k5.c_vs
  have y5 := k5.fr 3
  have k6 := k5.set_vs vs
  have r6 := r5.other (i := 3) (u := vs) HN.out.2.2.1
  have c6 := cB.setP 3 vs
  have hgl := HM.out.2.2.2.2.2.1
  have hpl := HM.out.2.2.2.2.2.2
  have cC := ((c5.toG (pb := pb)).setP 3 vs)
  have od := cC.ownsG (((Only.setCell (w := w2) ⟨pb, 2, none⟩ (.slice va d.length vp)).owns HC.out.2.2.1 (fun q hq e => by have h1 := (HC.out.2.2.1.lt q hq).1; have e' : q = pb := Option.some.inj e; omega))) hgl hpl
  have os : (w3.setCell ⟨pb, 3, none⟩ vs).ownsRow w.heap.size 5 1 vs s.length (s.map (Value.int .u8)) := (Only.setCell (w := w3) ⟨pb, 3, none⟩ vs).owns (owns_mono o5 HC.out.1.size) (fun q hq e => by have h1 := (o5.lt q hq).1; have h2 := HC.out.1.size; have e' : q = pb := Option.some.inj e; omega)
  have ap : Apart (.slice va d.length vp) vs := apart_of HC.out.2.2.1 o5 (by rw [sizeS]; exact Nat.le_refl _)
  have hs3 : w.heap.size ≤ (w3.setCell ⟨pb, 3, none⟩ vs).heap.size := c6.size
  obtain ⟨wa, wp, ew⟩ := (row_of_owns o5).form
  have z6 := k6.c_v
  have HD : Hid _ := And.intro eL (And.intro c6 (And.intro k6 (And.intro r6 (And.intro od (And.intro os (And.intro ap (And.intro hq2 (And.intro hgl hpl))))))))
  clear c5 hce o5 r5 hp2 hq2 hs8 cB k5 k6 r6 c6 cC od os ap eL hs3 hgl hpl
  subst ew
  by_cases hv0 : V = 0
  · have hv0' : (V == 0) = true := by simp [hv0]
    have hv1 : V = 0 := hv0
    by_cases h128 : first = 128
    · have hfn : (first != 128) = false := by simp [h128]
      have hver := versRC g pb b off n cap p2 xs 0 V _ _ _ 0 0 _ HD.out.2.2.2.1 HD.out.2.2.1 (HM.out.2.2.2.1.chg HD.out.2.1 HN.out.2.2.2.2.2.2.1) HM.out.2.2.2.2.1 HN.out.2.1 HN.out.2.2.1 HN.out.2.2.2.1 HN.out.2.2.2.2.1 HD.out.2.2.2.2.2.2.2.1
      have HZ : Hid _ := And.intro hv1 h128
      clear hv0 hv1 h128
      go_wp2_with fail
      go_at_call 43
      refine (leaveIf_f _ 3 _).mono ?_
      rintro e w4 ⟨rfl, hw4⟩
      rw [hw4]; clear hw4 w4
      go_wp2_with fail
      go_at_call 60
      refine hver.mono ?_
      rintro e w4 ⟨c7, ⟨c, hce, rfl⟩ | ⟨Lv, vv, hce, rfl, k7, o7, hL8⟩⟩
      · go_wp2_with fail
        refine ⟨rfl, HD.out.2.1.trans c7, Or.inl ⟨c, ?_, rfl⟩⟩
        rw [HD.out.1]; unfold pkTail; rw [if_pos HZ.out.1, if_neg (by rw [HZ.out.2]; decide), hce]
      · go_wp2_with fail
        first | go_end0 | refine bodyPost_ret (results_none rfl _ _ _) rfl ?_
        refine ⟨HD.out.2.1.trans c7, Or.inr ⟨⟨5, V, d, s, [], Lv, 0, xs.length⟩, ?_, rfl, ?_⟩⟩
        · rw [HD.out.1]; unfold pkTail; rw [if_pos HZ.out.1, if_neg (by rw [HZ.out.2]; decide), hce]
        · refine ⟨_, _, _, _, by rw [HN.out.1]; exact k7, ⟨c7.ownsG HD.out.2.2.2.2.1 HD.out.2.2.2.2.2.2.2.2.1 HD.out.2.2.2.2.2.2.2.2.2, c7.ownsG HD.out.2.2.2.2.2.1 HD.out.2.2.2.2.2.2.2.2.1 HD.out.2.2.2.2.2.2.2.2.2, World.ownsRow_nil _ _ _ _, HD.out.2.2.2.2.2.2.1, apart_nil _, apart_nil _⟩, owns_mono o7 HD.out.2.1.size⟩
    · have hfn : (first != 128) = true := by simp [h128]
      have HZ : Hid _ := And.intro hv1 h128
      clear hv0 hv1 h128
      go_wp2_with fail
      go_at_call 43
      refine (leaveIf_t _ 3 _).mono ?_
      rintro e w4 ⟨rfl, hw4⟩
      rw [hw4]; clear hw4 w4
      go_wp2_with fail
      refine ⟨rfl, HD.out.2.1, Or.inl ⟨3, ?_, rfl⟩⟩
      rw [HD.out.1]; unfold pkTail; rw [if_pos HZ.out.1, if_pos HZ.out.2]
  · have hv0' : (V == 0) = false := by simp [hv0]
    have HZ : Hid (¬ V = 0) := hv0
    clear hv0
    have hlf := longFormC first _ (HM.out.2.1.chg HD.out.2.1 HN.out.2.2.2.2.2.2.2.2.1) HN.out.2.2.2.2.2.2.2.2.2.1 HN.out.2.2.2.2.2.2.2.2.2.2
    obtain ⟨F, hF⟩ : ∃ F, lform first = F := ⟨_, rfl⟩
    rw [hF] at hlf
    have x6 := HD.out.2.2.1.c_f
    have y6 := HD.out.2.2.1.fr 0
    have k7 := HD.out.2.2.1.set_f F
    have r7 := HD.out.2.2.2.1.other (i := 0) (u := .int .i64 F) HN.out.2.2.1
    have cT : Chg (SG g pb) (w3.setCell ⟨pb, 3, none⟩ (.slice wa s.length wp)) ((w3.setCell ⟨pb, 3, none⟩ (.slice wa s.length wp)).setCell ⟨pb, 0, none⟩ (.int .i64 F)) := (Chg.refl _ _).setP 0 _
    have c7 := HD.out.2.1.trans cT
    have l7 := HM.out.2.2.2.1.chg c7 HN.out.2.2.2.2.2.2.1
    have t7 := HM.out.1.chg c7 HN.out.2.2.2.2.2.2.2.1
    have z7 := k7.c_f
    have od := cT.ownsG HD.out.2.2.2.2.1 HD.out.2.2.2.2.2.2.2.2.1 HD.out.2.2.2.2.2.2.2.2.2
    have os := cT.ownsG HD.out.2.2.2.2.2.1 HD.out.2.2.2.2.2.2.2.2.1 HD.out.2.2.2.2.2.2.2.2.2
    have eT : pkLong xs first = pkTail xs first V d s p2 := HD.out.1
    by_cases f3 : F = 3
    · have hret := retryRC g pb b off n cap p2 xs F V _ _ _ _ 0 0 _ r7 k7 l7 HN.out.2.1 HN.out.2.2.1 HN.out.2.2.2.2.1 HD.out.2.2.2.2.2.2.2.1
      have d3 : (F == 3) = true := by simp [f3]
      have eQ : pkTail xs first V d s p2 = match pkRet xs p2 with
          | .error c => .error c
          | .ok t => .ok ⟨3, V, d, s, t, [], 0, xs.length⟩ := by unfold pkTail; rw [if_neg HZ.out, if_pos (hF.trans f3)]; cases pkRet xs p2 <;> rfl
      have HX : Hid _ := And.intro (eT.trans eQ) (And.intro c7 (And.intro od (And.intro os f3)))
      clear k7 r7 l7 t7 od os eT eQ hF f3 c7 cT
      go_wp2_with fail
      go_at_call 61
      refine hlf.mono ?_
      rintro e w4 ⟨rfl, hw4⟩
      rw [hw4]; clear hw4 w4
      go_wp2_with fail
      go_at_call 62
      refine hret.mono ?_
      rintro e w4 ⟨c8, ⟨c, hce, rfl⟩ | ⟨t, vt, hce, rfl, k8, o8, ht8⟩⟩
      · go_wp2_with fail
        exact ⟨rfl, HX.out.2.1.trans c8, Or.inl ⟨c, by rw [HX.out.1, hce], rfl⟩⟩
      · go_wp2_with fail
        first | go_end0 | refine bodyPost_ret (results_none rfl _ _ _) rfl ?_
        refine ⟨HX.out.2.1.trans c8, Or.inr ⟨⟨3, V, d, s, t, [], 0, xs.length⟩, by rw [HX.out.1, hce], rfl, ?_⟩⟩
        refine ⟨_, _, _, _, by rw [HN.out.1]; rw [HX.out.2.2.2.2] at k8; exact k8, ⟨c8.ownsG HX.out.2.2.1 HD.out.2.2.2.2.2.2.2.2.1 HD.out.2.2.2.2.2.2.2.2.2, c8.ownsG HX.out.2.2.2.1 HD.out.2.2.2.2.2.2.2.2.1 HD.out.2.2.2.2.2.2.2.2.2, owns_mono o8 HX.out.2.1.size, HD.out.2.2.2.2.2.2.1, apart_of HX.out.2.2.1 o8 (Nat.le_refl _), apart_of HX.out.2.2.2.1 o8 (Nat.le_refl _)⟩, World.ownsRow_nil _ _ _ _⟩
    have d3 : (F == 3) = false := by simp [f3]
    by_cases f1 : F = 1
    case neg =>
      have d1 : (F == 1) = false := by simp [f1]
      by_cases f2 : F = 2
      · have hbeh := behindC g pb b off n cap p2 xs F V _ _ _ _ 0 0 _ t7 r7 k7 l7 HM.out.2.2.2.2.1 HN.out.2.1 HN.out.2.2.1 HN.out.2.2.2.2.1 HD.out.2.2.2.2.2.2.2.1
        have d2 : (F == 2) = true := by simp [f2]
        have eQ : pkTail xs first V d s p2 = match pkBeh xs p2 with
            | .error c => .error c
            | .ok (a, q) => .ok ⟨2, V, d, s, [], [], a, q⟩ := by unfold pkTail; rw [if_neg HZ.out, if_neg (by omega), if_neg (by omega), if_pos (hF.trans f2)]; cases pkBeh xs p2 <;> rfl
        have HX : Hid _ := And.intro (eT.trans eQ) (And.intro c7 (And.intro od (And.intro os f2)))
        clear k7 r7 l7 t7 od os eT eQ hF f3 f1 f2 c7 cT
        go_wp2_with fail
        go_at_call 61
        refine hlf.mono ?_
        rintro e w4 ⟨rfl, hw4⟩
        rw [hw4]; clear hw4 w4
        go_wp2_with fail
        go_at_call 64
        refine hbeh.mono ?_
        rintro e w4 ⟨c8, ⟨c, hce, rfl⟩ | ⟨a, q, hce, rfl, k8, ha8, hq8⟩⟩
        · go_wp2_with fail
          exact ⟨rfl, HX.out.2.1.trans c8, Or.inl ⟨c, by rw [HX.out.1, hce], rfl⟩⟩
        · go_wp2_with fail
          first | go_end0 | refine bodyPost_ret (results_none rfl _ _ _) rfl ?_
          refine ⟨HX.out.2.1.trans c8, Or.inr ⟨⟨2, V, d, s, [], [], a, q⟩, by rw [HX.out.1, hce], rfl, ?_⟩⟩
          refine ⟨_, _, _, _, by rw [HX.out.2.2.2.2] at k8; exact k8, ⟨c8.ownsG HX.out.2.2.1 HD.out.2.2.2.2.2.2.2.2.1 HD.out.2.2.2.2.2.2.2.2.2, c8.ownsG HX.out.2.2.2.1 HD.out.2.2.2.2.2.2.2.2.1 HD.out.2.2.2.2.2.2.2.2.2, World.ownsRow_nil _ _ _ _, HD.out.2.2.2.2.2.2.1, apart_nil _, apart_nil _⟩, World.ownsRow_nil _ _ _ _⟩
      · have d2 : (F == 2) = false := by simp [f2]
        have eQ : pkTail xs first V d s p2 = .error 3 := by unfold pkTail; rw [if_neg HZ.out, if_neg (by omega), if_neg (by omega), if_neg (by omega)]
        have HX : Hid _ := And.intro (eT.trans eQ) (And.intro c7 (And.intro od (And.intro os f2)))
        clear k7 r7 l7 t7 od os eT eQ hF f3 f1 f2 c7 cT
        go_wp2_with fail
        go_at_call 61
        refine hlf.mono ?_
        rintro e w4 ⟨rfl, hw4⟩
        rw [hw4]; clear hw4 w4
        go_wp2_with fail
        go_at_call 55
        refine (leaveC _ 3 _).mono ?_
        rintro e w4 ⟨rfl, hw4⟩
        rw [hw4]; clear hw4 w4
        go_wp2_with fail
        exact ⟨rfl, HX.out.2.1, Or.inl ⟨3, HX.out.1, rfl⟩⟩
    have d1 : (F == 1) = true := by simp [f1]
    have eQ : pkTail xs first V d s p2 = pkIni xs V d s p2 := by unfold pkTail; rw [if_neg HZ.out, if_neg (by omega), if_pos (hF.trans f1)]
    have HX : Hid _ := And.intro (eT.trans eQ) (And.intro c7 (And.intro od (And.intro os (And.intro f1 (And.intro k7 (And.intro r7 (And.intro l7 t7)))))))
    clear k7 r7 l7 t7 od os eT eQ hF f3 f1 c7 cT
    by_cases hv : varOK xs p2
    case neg =>
      have hvar := variable_no g b off n cap p2 xs _ HX.out.2.2.2.2.2.2.2.2 HX.out.2.2.2.2.2.2.1 HX.out.2.2.2.2.2.2.2.1 HM.out.2.2.2.2.1 HN.out.2.2.2.2.1 HD.out.2.2.2.2.2.2.2.1 hv
      have eI : pkIni xs V d s p2 = .error 2 := by unfold pkIni; rw [if_neg hv]
      have HI : Hid _ := And.intro eI True.intro
      clear hv eI
      go_wp2_with fail
      go_at_call 61
      refine hlf.mono ?_
      rintro e w4 ⟨rfl, hw4⟩
      rw [hw4]; clear hw4 w4
      go_wp2_with fail
      go_at_call 63
      refine hvar.mono ?_
      rintro e w4 ⟨rfl, c8⟩
      go_wp2_with fail
      exact ⟨rfl, HX.out.2.1.trans c8.toG, Or.inl ⟨2, HX.out.1.trans HI.out.1, rfl⟩⟩
    have hvar := variable_ok g b off n cap p2 xs _ HX.out.2.2.2.2.2.2.2.2 HX.out.2.2.2.2.2.2.1 HX.out.2.2.2.2.2.2.2.1 HM.out.2.2.2.2.1 HN.out.2.2.2.2.1 hv
    have hVb := varV_bd xs p2
    have hNb := varN_bd xs p2 hv
    rw [HN.out.1] at hNb
    obtain ⟨U, hU⟩ : ∃ U : Nat, varV xs p2 = (U : Int) := ⟨(varV xs p2).toNat, by omega⟩
    obtain ⟨M, hM⟩ : ∃ M : Nat, varN xs p2 = M := ⟨_, rfl⟩
    rw [hU, hM] at hvar
    rw [hM] at hNb
    by_cases h64 : 64 < U
    · have d64 : decide ((64 : Int) < (U : Int)) = true := decide_eq_true (by omega)
      have eI : pkIni xs V d s p2 = .error 3 := by unfold pkIni; rw [if_pos hv, hU, if_pos (by omega)]
      have HI : Hid _ := And.intro eI True.intro
      clear hv eI hVb hNb hU hM h64
      go_wp2_with fail
      go_at_call 61
      refine hlf.mono ?_
      rintro e w4 ⟨rfl, hw4⟩
      rw [hw4]; clear hw4 w4
      go_wp2_with fail
      go_at_call 63
      refine hvar.mono ?_
      rintro e w4 ⟨rfl, r8, c8⟩
      go_wp2_with fail
      go_at_call 43
      refine (leaveIf_t _ 3 _).mono ?_
      rintro e w5 ⟨rfl, hw5⟩
      rw [hw5]; clear hw5 w5
      go_wp2_with fail
      exact ⟨rfl, HX.out.2.1.trans c8.toG, Or.inl ⟨3, HX.out.1.trans HI.out.1, rfl⟩⟩
    have d64 : decide ((64 : Int) < (U : Int)) = false := decide_eq_false (by omega)
    by_cases hs : n < M + U
    · have eI : pkIni xs V d s p2 = .error 2 := by unfold pkIni; rw [if_pos hv, hU, hM, if_neg (by omega), Int.toNat_natCast, if_pos (by have := HN.out.1; omega)]
      have HI : Hid _ := And.intro eI (And.intro hNb hs)
      clear hv eI hVb hNb hU hM h64 hs
      go_wp2_with fail
      go_at_call 61
      refine hlf.mono ?_
      rintro e w4 ⟨rfl, hw4⟩
      rw [hw4]; clear hw4 w4
      go_wp2_with fail
      go_at_call 63
      refine hvar.mono ?_
      rintro e w4 ⟨rfl, r8, c8⟩
      have htk := take_no g (some ⟨b, off, none⟩) n cap M U w4 r8 ⟨by omega, by have := HI.out.2.1; omega⟩ (by have := HN.out.2.2.2.2.1; omega) (by have := HI.out.2.2; omega)
      have HC8 : Hid _ := And.intro c8 True.intro
      clear c8 r8
      go_wp2_with fail
      go_at_call 43
      refine (leaveIf_f _ 3 _).mono ?_
      rintro e w5 ⟨rfl, hw5⟩
      rw [hw5]; clear hw5 w5
      go_wp2_with fail
      go_at_call 57
      refine htk.mono ?_
      rintro e w5 ⟨rfl, hw5⟩
      rw [hw5]; clear hw5 w5
      go_wp2_with fail
      exact ⟨rfl, (HX.out.2.1.trans HC8.out.1.toG).drew, Or.inl ⟨2, HX.out.1.trans HI.out.1, rfl⟩⟩
    have hsl : (sub xs M U).length = U := sub_len xs M U (by rw [HN.out.1]; omega)
    have eI : pkIni xs V d s p2 = match pkBeh xs (M + U) with
      | .error c => .error c
      | .ok (a, q) => .ok ⟨1, V, d, s, sub xs M U, [], a, q⟩ := by unfold pkIni; rw [if_pos hv, hU, hM, if_neg (by omega), Int.toNat_natCast, if_neg (by have := HN.out.1; omega)]; cases pkBeh xs (M + U) <;> rfl
    have HI : Hid _ := And.intro eI (And.intro hNb (And.intro hs hsl))
    clear hv eI hVb hNb hU hM h64 hs hsl
    go_wp2_with fail
    go_at_call 61
    refine hlf.mono ?_
    rintro e w4 ⟨rfl, hw4⟩
    rw [hw4]; clear hw4 w4
    go_wp2_with fail
    go_at_call 63
    refine hvar.mono ?_
    rintro e w4 ⟨rfl, r8, c8⟩
    have htk := take_ok g b off n cap M U xs w4 r8 (HX.out.2.2.2.2.2.2.2.1.chg c8 HN.out.2.1) HN.out.2.1 HN.out.2.2.2.2.1 (by have := HI.out.2.2.1; omega)
    change Calls _ _ _ _ fun e w' => ∃ v, e = .returned v ∧ w'.ownsRow _ 5 1 v U ((sub xs M U).map (Value.int .u8)) ∧ _ at htk
    have HC8 : Hid _ := And.intro c8 True.intro
    clear c8 r8 hvar
    go_wp2_with fail
    go_at_call 43
    refine (leaveIf_f _ 3 _).mono ?_
    rintro e w5 ⟨rfl, hw5⟩
    rw [hw5]; clear hw5 w5
    go_wp2_with fail
    go_at_call 57
    refine htk.mono ?_
    rintro e w5 ⟨vt, rfl, o9, r9, c9⟩
    have cA9 := HC8.out.1.trans c9
    have k9 := HX.out.2.2.2.2.2.1.chg cA9 HN.out.2.2.1
    have x9 := k9.c_vt
    have y9 := k9.fr 4
    have k10 := k9.set_vt vt
    have r10 := r9.other (i := 4) (u := vt) HN.out.2.2.1
    have cB9 := (HX.out.2.1.trans (cA9.toG (pb := pb))).setP 4 vt
    have cC9 : Chg (SG g pb) _ (w5.setCell ⟨pb, 4, none⟩ vt) := (cA9.toG (pb := pb)).setP 4 vt
    have l10 := HM.out.2.2.2.1.chg cB9 HN.out.2.2.2.2.2.2.1
    have t10 := HM.out.1.chg cB9 HN.out.2.2.2.2.2.2.2.1
    have hbeh := behindC g pb b off n cap (M + U) xs _ V _ _ _ _ 0 0 _ t10 r10 k10 l10 HM.out.2.2.2.2.1 HN.out.2.1 HN.out.2.2.1 HN.out.2.2.2.2.1 (by have := HI.out.2.2.1; omega)
    have h4s : w.heap.size ≤ w4.heap.size := Nat.le_trans HX.out.2.1.size HC8.out.1.size
    have ot : (w5.setCell ⟨pb, 4, none⟩ vt).ownsRow w4.heap.size 5 1 vt U ((sub xs M U).map (Value.int .u8)) := (Only.setCell (w := w5) ⟨pb, 4, none⟩ vt).owns o9 (fun q hq e => by have h1 := (o9.lt q hq).1; have h2 := HD.out.2.2.2.2.2.2.2.2.2; have e' : q = pb := Option.some.inj e; omega)
    obtain ⟨ta, tp, et⟩ := (row_of_owns o9).form
    rw [HI.out.2.2.2] at et
    have aD : Apart (.slice va d.length vp) vt := apart_of HX.out.2.2.1 o9 HC8.out.1.size
    have aS : Apart (.slice wa s.length wp) vt := apart_of HX.out.2.2.2.1 o9 HC8.out.1.size
    have od9 := cC9.ownsG HX.out.2.2.1 HD.out.2.2.2.2.2.2.2.2.1 HD.out.2.2.2.2.2.2.2.2.2
    have os9 := cC9.ownsG HX.out.2.2.2.1 HD.out.2.2.2.2.2.2.2.2.1 HD.out.2.2.2.2.2.2.2.2.2
    have HY : Hid _ := And.intro cB9 (And.intro od9 (And.intro os9 (And.intro (owns_mono ot h4s) (And.intro aD aS))))
    clear cA9 k9 k10 r10 cB9 cC9 l10 t10 h4s ot aD aS od9 os9 o9 r9 c9
    subst et
    go_wp2_with fail
    go_at_call 64
    refine hbeh.mono ?_
    rintro e w6 ⟨cX, ⟨c, hce, rfl⟩ | ⟨a, q, hce, rfl, kX, haX, hqX⟩⟩
    · go_wp2_with fail
      exact ⟨rfl, HY.out.1.trans cX, Or.inl ⟨c, by rw [HX.out.1, HI.out.1, hce], rfl⟩⟩
    · go_wp2_with fail
      first | go_end0 | refine bodyPost_ret (results_none rfl _ _ _) rfl ?_
      refine ⟨HY.out.1.trans cX, Or.inr ⟨⟨1, V, d, s, sub xs M U, [], a, q⟩, by rw [HX.out.1, HI.out.1, hce], rfl, ?_⟩⟩
      refine ⟨_, _, _, _, by rw [HX.out.2.2.2.2.1] at kX; exact kX, ⟨cX.ownsG HY.out.2.1 HD.out.2.2.2.2.2.2.2.2.1 HD.out.2.2.2.2.2.2.2.2.2, cX.ownsG HY.out.2.2.1 HD.out.2.2.2.2.2.2.2.2.1 HD.out.2.2.2.2.2.2.2.2.2, ?_, HD.out.2.2.2.2.2.2.1, HY.out.2.2.2.2.1, HY.out.2.2.2.2.2⟩, World.ownsRow_nil _ _ _ _⟩
      rw [HI.out.2.2.2]
      exact cX.ownsG HY.out.2.2.2.1 HD.out.2.2.2.2.2.2.2.2.1 HD.out.2.2.2.2.2.2.2.2.2
end Go.Proofs.YtbbiinbjgognjaaDoor
