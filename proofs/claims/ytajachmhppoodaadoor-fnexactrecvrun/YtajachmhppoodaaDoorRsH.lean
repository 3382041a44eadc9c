import Derived.Test.YtajachmhppoodaaDoorRsG
namespace Go.Proofs.YtajachmhppoodaaDoor
open Go.RowKit
set_option linter.unusedVariables false
set_option linter.unusedSimpArgs false

theorem heap_drewN {w : World} {k : Nat} {o : Option Obj} (n : Nat) (h : w.heap[k]? = o) : (w.drewN n).heap[k]? = o := h
theorem take_one (T : PL) (a k : Nat) (h : a + k < T.length) : ((T.drop a).take (k + 1)).map (·.2) = ((T.drop a).take k).map (·.2) ++ [(PL.g T (a + k)).2] := by
  rw [List.take_add_one, List.map_append]
  congr 1
  simp [PL.g, List.getD, h]
theorem lit1d (w : World) (t : TypeId) (x : Value) : (w.alloc (.cells #[x] t)).drew.cell? ⟨w.heap.size, 0, none⟩ = some x := lit1 w t x
theorem size_drew (w : World) : w.drew.heap.size = w.heap.size := rfl
theorem Chg.trans' {D S : Nat → Prop} {w w1 w2 : World} (h : Chg D w w1) (h2 : Chg S w1 w2) (hs : ∀ t, t < w.heap.size → ¬ S t) : Chg D w w2 :=
  ⟨h2.os.trans h.os, h2.tape.trans h.tape, h2.output.trans h.output, Nat.le_trans h.size h2.size, fun k hk hn => (h2.block k (Nat.lt_of_lt_of_le hk h.size) (hs k hk)).trans (h.block k hk hn)⟩
/-- The reading loop. -/
structure GetI (w wr : World) (D : Nat → Prop) (g base : Nat) (st win told : Int) (rd : Nat) (final en : Int) (sized : Bool) (T : PL) (vd vt ro : Value) (k : Nat) : Prop where
  b : mB wr g st win told ((rd + k : Nat) : Int) final en sized vd vt
  a : MA wr D g base T vd vt
  o : wr.ownsRow w.heap.size 5 1 ro k ((((T.drop rd).take k).map (·.2)).map (Value.int .u8))
  c : Chg D w wr
  al : ∀ i, i < k → (PL.g T (rd + i)).1 = true
  le : rd + k ≤ T.length
set_option maxRecDepth 20000 in
set_option maxHeartbeats 8000000 in
theorem get_yes (g base win : Nat) (m : MS) (n : Int) (D : Nat → Prop) (w : World) (hR : MRep w D g base win m) (hst : m.st < 4) (h1 : 1 ≤ n) (hrd : m.read ≤ m.T.length) (hTl : m.T.length ≤ 1000000) (hto : 0 ≤ m.told ∧ m.told ≤ 1000000) (hfi : 0 ≤ m.final) (hw1 : 1 ≤ win) (hw2 : win ≤ 16384) :
    Calls Tryd.prog 27 #[.pointer (some ⟨g, 0, none⟩), .int .i64 n] w fun e w' => ∃ r, e = .returned (.tuple #[r, .bool (decide ((mread win m n).2.2 = 0 ∧ (mread win m n).1.st = 3)), .int .i64 (mread win m n).2.2]) ∧ w'.ownsRow w.heap.size 5 1 r (mread win m n).2.1.length ((mread win m n).2.1.map (Value.int .u8)) ∧ MRep w' D g base win (mread win m n).1 ∧ Chg D w w' := by
  obtain ⟨vd, vt, hb, hA⟩ := id hR
  obtain ⟨⟨da, dc, ed⟩, ta, tc, et⟩ := hA.shape
  have hgl := hb.lt
  obtain ⟨MR, eMR⟩ : ∃ MR, MR = mread win m n := ⟨_, rfl⟩
  rw [← eMR]
  obtain ⟨EB, eEB⟩ : ∃ EB, EB = decide (MR.2.2 = 0 ∧ MR.1.st = 3) := ⟨_, rfl⟩
  rw [← eEB]
  obtain ⟨CC, eCC⟩ : ∃ CC, CC = MR.2.2 := ⟨_, rfl⟩
  rw [← eCC]
  obtain ⟨T, eT⟩ : ∃ T, T = m.T := ⟨_, rfl⟩
  obtain ⟨rd, erd⟩ : ∃ rd, rd = m.read := ⟨_, rfl⟩
  obtain ⟨tl, etl⟩ : ∃ tl, tl = T.length := ⟨_, rfl⟩
  rw [← eT, ← erd] at hrd
  rw [← eT] at hTl hA hb ed et
  rw [← erd] at hb
  rw [← etl] at hTl hrd ed et
  have HE : Hid _ := And.intro eMR (And.intro eEB (And.intro eCC (And.intro eT (And.intro erd etl))))
  obtain ⟨st, est⟩ : ∃ st : Nat, st = m.st := ⟨_, rfl⟩
  obtain ⟨told, etold⟩ : ∃ t, t = m.told := ⟨_, rfl⟩
  obtain ⟨final, efin⟩ : ∃ t, t = m.final := ⟨_, rfl⟩
  rw [← est, ← etold, ← efin] at hb
  rw [← est] at hst
  rw [← etold] at hto
  rw [← efin] at hfi
  have HM : Hid _ := And.intro est (And.intro etold efin)
  have B0 : Below w.heap.size w (w.alloc (.cells #[] 5)) := (Below.refl _ _).alloc (Nat.le_refl _) _
  have G0 : GetI w (w.alloc (.cells #[] 5)) D g base st win told rd final (T.length : Nat) m.sized T vd vt (.slice (some ⟨w.heap.size, 0, none⟩) 0 0) 0 :=
    ⟨(B0.block g hgl).trans hb, ⟨owns_below hA.od B0, owns_below hA.ot B0, hA.dg, hA.dd, hA.dt, fun k hk => Nat.lt_of_lt_of_le (hA.lt k hk) B0.size, hA.gb⟩, lit0_u8 w _ (Nat.le_refl _), Chg.of_below B0, fun i hi => by omega, by rw [← etl]; omega⟩
  have c0 : w.cell? ⟨g, 0, none⟩ = some (.int .i64 (st : Int)) := (bk_cell hb 0).trans rfl
  have s4 : ((st : Int) == 4) = false := by simp; omega
  have s5 : ((st : Int) == 5) = false := by simp; omega
  have HG : Hid _ := G0
  have HD : Hid (∀ t, D t → t < w.heap.size) := hA.lt
  clear hR hb hA eMR eEB eCC eT erd etl est etold efin B0 G0
  go_enter Tryd.func27, Tryd.ntmps27
  go_wp2_with fail
  clear c0 s4 s5
  go_loopg [7] (tl + 1) (fun q ro wr => ∃ k : Nat, tl - (rd + k) < q ∧ GetI w wr D g base st win told rd final (T.length : Nat) m.sized T vd vt ro k ∧ (k : Int) ≤ n)
  case atStart => exact ⟨0, by omega, HG.out, by omega⟩
  case round =>
    obtain ⟨k, hq, GI, hkn⟩ := hrel
    have hb := GI.b
    have d3 : wr.cell? ⟨g, 3, none⟩ = some (.int .i64 ((rd + k : Nat) : Int)) := (bk_cell hb 3).trans rfl
    have d7 : wr.cell? ⟨g, 7, none⟩ = some vd := (bk_cell hb 7).trans rfl
    have d8 : wr.cell? ⟨g, 8, none⟩ = some vt := (bk_cell hb 8).trans rfl
    obtain ⟨ra, rc', er⟩ := own_form GI.o
    obtain ⟨p, ep⟩ : ∃ p, p = rd + k := ⟨_, rfl⟩
    rw [← ep] at d3 hq
    have hpl : p ≤ tl := by have := GI.le; have := HE.out.2.2.2.2.2; omega
    have hgl2 := hb.lt
    have H1 : Hid _ := And.intro GI (And.intro er ep)
    subst er
    rw [ed] at d7
    rw [et] at d8
    clear GI hb ep
    obtain ⟨cb, ecb⟩ : ∃ cb : Bool, cb = (decide ((k : Int) < n) && decide (p < tl) && (PL.g T p).1) := ⟨_, rfl⟩
    have ECB : Hid _ := ecb
    go_upto_region 7 with fail
    go_cut [55] from 28 to 55 (fun cv wx => cv = .bool cb ∧ ∃ nn, wx = wr.drewN nn)
    case first =>
      by_cases g1 : (k : Int) < n
      · by_cases g2 : p < tl
        · obtain ⟨b, cap, ev, hc, _⟩ := row_bool H1.out.1.a.ot rfl p (by rw [← HE.out.2.2.2.2.2]; exact g2)
          rw [et, ← HE.out.2.2.2.2.2] at ev
          simp only [Value.slice.injEq] at ev
          obtain ⟨rfl, -, rfl⟩ := ev
          have e2 : cb = (PL.g T p).1 := by rw [ecb, decide_eq_true g1, decide_eq_true g2]; rfl
          rw [← e2] at hc
          have g2' : (p : Int) < (tl : Int) := by omega
          have b1 : decide ((k : Int) < n) = true := by simpa using g1
          have b2 : decide ((p : Int) < (tl : Int)) = true := by simpa using g2
          clear ecb e2
          go_quiet (fail)
          go_wp2_with fail
          go_meet
          exact ⟨rfl, _, rfl⟩
        · have e2 : cb = false := by rw [ecb, decide_eq_false g2]; simp
          have b1 : decide ((k : Int) < n) = true := by simpa using g1
          have b2 : decide ((p : Int) < (tl : Int)) = false := by simp; omega
          subst e2
          clear ecb
          go_quiet (fail)
          go_wp2_with fail
          go_meet
          exact ⟨rfl, _, rfl⟩
      · have e2 : cb = false := by rw [ecb, decide_eq_false g1]; simp
        have b1 : decide ((k : Int) < n) = false := by simp; omega
        subst e2
        clear ecb
        go_quiet (fail)
        go_wp2_with fail
        go_meet
        exact ⟨rfl, _, rfl⟩
    case rest =>
    obtain ⟨rfl, nn, hw⟩ := hcut
    subst wc
    cases cb
    · have hk : k = rdk T rd n.toNat := by
        have e3 := ECB.out
        have GI := H1.out.1
        have ep := H1.out.2.2
        refine rdk_uniq T rd n.toNat k (by omega) GI.al ?_
        by_cases g1 : (k : Int) < n
        · right
          rw [← ep]
          by_cases g2 : p < tl
          · rw [decide_eq_true g1, decide_eq_true g2] at e3
            simpa using e3.symm
          · rw [g_out T p (by rw [← HE.out.2.2.2.2.2]; omega)]
        · left; omega
      obtain ⟨S2, eS2⟩ : ∃ S2 : Nat, S2 = (if st = 2 ∧ (p : Int) = final then 3 else st) := ⟨_, rfl⟩
      obtain ⟨TD, eTD⟩ : ∃ TD : Int, TD = (if S2 = 0 then cnV (p : Int) win told else told) := ⟨_, rfl⟩
      have eM : MR = ({ m with st := S2, read := p, told := TD }, ((T.drop rd).take k).map (·.2), 0) := by
        obtain ⟨x1, _, _, x4, x5, x6⟩ := HE.out
        obtain ⟨y1, y2, y3⟩ := HM.out
        rw [x1, eTD, eS2, H1.out.2.2, y1, y2, y3, hk, x4, x5]
        unfold mread
        rw [if_neg (by omega), if_neg (by rw [← y1]; omega)]
      have hlen : (((T.drop rd).take k).map (·.2)).length = k := by
        have := H1.out.1.le
        simp; omega
      have FIN : Hid (∀ W' : World, mB W' g S2 win TD (p : Int) final (T.length : Nat) m.sized vd vt → MA W' D g base T vd vt → W'.ownsRow w.heap.size 5 1 (.slice ra k rc') k ((((T.drop rd).take k).map (·.2)).map (Value.int .u8)) → Chg D w W' →
          W'.ownsRow w.heap.size 5 1 (.slice ra k rc') MR.2.1.length (MR.2.1.map (Value.int .u8)) ∧ MRep W' D g base win MR.1 ∧ Chg D w W') := fun W' q1 q2 q3 q4 => by
        rw [eM]
        dsimp only
        rw [hlen]
        refine ⟨q3, ⟨vd, vt, ?_, ?_⟩, q4⟩
        · dsimp only; rw [← HE.out.2.2.2.1, ← HM.out.2.2]; exact q1
        · dsimp only; rw [← HE.out.2.2.2.1]; exact q2
      have eC0 : CC = 0 := by rw [HE.out.2.2.1, eM]
      have eE : EB = decide (S2 = 3) := by rw [HE.out.2.1, eM]; simp
      obtain ⟨W, eW⟩ : ∃ W, W = wr.drewN nn := ⟨_, rfl⟩
      have GW : GetI w W D g base st win told rd final (T.length : Nat) m.sized T vd vt (.slice ra k rc') k := by
        rw [eW]; obtain ⟨q1, q2, q3, q4, q5, q6⟩ := H1.out.1
        exact ⟨q1, q2.drewM nn, q3, q4.drewD nn, q5, q6⟩
      have hbW : mB W g st win told (p : Int) final (T.length : Nat) m.sized vd vt := by rw [H1.out.2.2]; exact GW.b
      have e0 : W.cell? ⟨g, 0, none⟩ = some (.int .i64 (st : Int)) := (bk_cell hbW 0).trans rfl
      have e3 : W.cell? ⟨g, 3, none⟩ = some (.int .i64 (p : Int)) := (bk_cell hbW 3).trans rfl
      have e4 : W.cell? ⟨g, 4, none⟩ = some (.int .i64 final) := (bk_cell hbW 4).trans rfl
      have hgW : g < W.heap.size := hbW.lt
      rw [← eW]
      have HB : Hid _ := And.intro GW (And.intro hbW (And.intro eS2 (And.intro eTD (And.intro eC0 eE))))
      clear eW GW hbW eS2 eTD eC0 eE eM hk hlen ecb ECB H1 d3 d7 d8
      obtain ⟨cb2, ecb2⟩ : ∃ cb2 : Bool, cb2 = (decide (st = 2) && decide ((p : Int) = final)) := ⟨_, rfl⟩
      have ECB2 : Hid _ := ecb2
      go_upto_region 10 with fail
      go_cut [91] from 76 to 91 (fun cv wx => cv = .bool cb2 ∧ ∃ nn, wx = W.drewN nn)
      case first =>
        by_cases q1 : st = 2
        · have b1 : ((st : Int) == 2) = true := by simp [q1]
          have e2 : cb2 = ((p : Int) == final) := by rw [ecb2, decide_eq_true q1, Bool.true_and]; by_cases e : (p : Int) = final <;> simp [e]
          clear q1 ecb2
          subst e2
          go_quiet (fail)
          go_wp2_with fail
          go_meet
          exact ⟨rfl, _, rfl⟩
        · have b1 : ((st : Int) == 2) = false := by simp; omega
          have e2 : cb2 = false := by rw [ecb2, decide_eq_false q1]; rfl
          clear q1 ecb2
          subst e2
          go_quiet (fail)
          go_wp2_with fail
          go_meet
          exact ⟨rfl, _, rfl⟩
      case rest =>
      obtain ⟨rfl, nn2, hw⟩ := hcut
      subst wc
      obtain ⟨V, eV⟩ : ∃ V, V = W.drewN nn2 := ⟨_, rfl⟩
      have GV : GetI w V D g base st win told rd final (T.length : Nat) m.sized T vd vt (.slice ra k rc') k := by
        rw [eV]; obtain ⟨q1, q2, q3, q4, q5, q6⟩ := HB.out.1
        exact ⟨q1, q2.drewM nn2, q3, q4.drewD nn2, q5, q6⟩
      have hbV : mB V g st win told (p : Int) final (T.length : Nat) m.sized vd vt := by rw [eV]; exact HB.out.2.1.drewM nn2
      have v0 : V.cell? ⟨g, 0, none⟩ = some (.int .i64 (st : Int)) := (bk_cell hbV 0).trans rfl
      have w0 : V.frozen? ⟨g, 0, none⟩ = false := bk_free hbV 0
      have hgV : g < V.heap.size := hbV.lt
      have n1 : ∀ t, vt.ownBlock = some t → t ≠ g := own_gt GV.a.ot hbV (by decide)
      have n2 : ∀ t, vd.ownBlock = some t → t ≠ g := own_gt GV.a.od hbV (by decide)
      have nr : ∀ t, (Value.slice ra k rc').ownBlock = some t → t ≠ g := fun t ht e => by have := (GV.o.lt t ht).1; have := HD.out g GV.a.dg; omega
      have HV : Hid _ := And.intro GV (And.intro hbV (And.intro n1 (And.intro n2 nr)))
      rw [← eV]
      clear eV GV hbV e0 e3 e4 n1 n2 nr hgW
      cases cb2
      · have eS : S2 = st := by
          rw [HB.out.2.2.1, if_neg]
          rintro ⟨q1, q2⟩
          have := ECB2.out; rw [decide_eq_true q1, decide_eq_true q2] at this; cases this
        by_cases h0 : st = 0
        · have b0 : ((st : Int) == 0) = true := by simp [h0]
          have eT2 : TD = cnV (p : Int) win told := by rw [HB.out.2.2.2.1, if_pos (by rw [eS]; exact h0)]
          have eEB : EB = false := by rw [HB.out.2.2.2.2.2, eS, h0]; rfl
          have CN : ∀ u : World, Calls Tryd.prog 47 #[.int .i64 (p : Int), .int .i64 (win : Int), .int .i64 told] u (fun e w' => e = .returned (.int .i64 TD) ∧ w' = u) := fun u => by rw [eT2]; exact specCN (p : Int) win told u
          have HN : Hid _ := And.intro CN (And.intro eS eEB)
          have z3 : ((st : Int) == 3) = false := by simp [h0]
          clear CN eT2 eS eEB h0 ecb2 ECB2
          go_upto_region 13 with fail
          have e3 : V.drew.cell? ⟨g, 3, none⟩ = some (.int .i64 (p : Int)) := (bk_cell HV.out.2.1 3).trans rfl
          have e1 : V.drew.cell? ⟨g, 1, none⟩ = some (.int .i64 (win : Int)) := (bk_cell HV.out.2.1 1).trans rfl
          have e2 : V.drew.cell? ⟨g, 2, none⟩ = some (.int .i64 told) := (bk_cell HV.out.2.1 2).trans rfl
          have g2 : V.drew.frozen? ⟨g, 2, none⟩ = false := bk_free HV.out.2.1 2
          go_cut [7] from 100 to 115 (fun v wx => v = .slice ra k rc' ∧ wx = (V.setCell ⟨g, 2, none⟩ (.int .i64 TD)).drew)
          case first =>
            go_region_with (go_at_call 47; refine (HN.out.1 _).mono ?_; rintro e wy ⟨rfl, rfl⟩)
            all_goals
              go_simp
              go_wp2_with fail
              go_meet
              exact ⟨rfl, rfl⟩
          case rest =>
          obtain ⟨rfl, hw⟩ := hcut
          subst wc
          obtain ⟨Y, eY⟩ : ∃ Y, Y = (V.setCell ⟨g, 2, none⟩ (.int .i64 TD)).drew := ⟨_, rfl⟩
          have bY : mB Y g st win TD (p : Int) final (T.length : Nat) m.sized vd vt := by rw [eY]; exact heap_drewN 1 (bk_set HV.out.2.1 2 _)
          have AY : MA Y D g base T vd vt := by rw [eY]; exact (HV.out.1.a.setG HV.out.2.2.1 HV.out.2.2.2.1 2 _).drewM 1
          have oY : Y.ownsRow w.heap.size 5 1 (.slice ra k rc') k ((((T.drop rd).take k).map (·.2)).map (Value.int .u8)) := by rw [eY]; exact drewOwns ((Only.setCell (w := V) ⟨g, 2, none⟩ _).owns HV.out.1.o (fun t ht e => HV.out.2.2.2.2 t ht (Option.some.inj e)))
          have cY : Chg D w Y := by rw [eY]; exact (HV.out.1.c.setD g 2 _ (Or.inl HV.out.1.a.dg)).drewD1
          have y0 : Y.cell? ⟨g, 0, none⟩ = some (.int .i64 (st : Int)) := (bk_cell bY 0).trans rfl
          have hgY : g < Y.heap.size := bY.lt
          have HY : Hid _ := And.intro bY (And.intro AY (And.intro oY cY))
          rw [← eY]
          clear eY bY AY oY cY e1 e2 e3 g2 v0 w0
          go_upto_region 14 with fail
          go_quiet (fail)
          go_wp2_with fail
          go_ret3
          obtain ⟨bY, AY, oY, cY⟩ := HY.out
          refine ⟨_, by rw [HB.out.2.2.2.2.1, HN.out.2.2]; rfl, FIN.out _ ?_ (AY.drewM nq) oY (cY.drewD nq)⟩
          rw [HN.out.2.1]; exact bY.drewM nq
        · have b0 : ((st : Int) == 0) = false := by simp; omega
          have eT2 : TD = told := by rw [HB.out.2.2.2.1, if_neg (by rw [eS]; exact h0)]
          have eEB : EB = ((st : Int) == 3) := by rw [HB.out.2.2.2.2.2, eS]; by_cases e : st = 3 <;> simp [e]; omega
          have HN : Hid _ := And.intro eS (And.intro eT2 eEB)
          clear eT2 eS eEB h0 ecb2 ECB2
          go_upto_region 14 with fail
          go_quiet (fail)
          go_wp2_with fail
          go_ret3
          refine ⟨_, by rw [HB.out.2.2.2.2.1, HN.out.2.2]; rfl, FIN.out _ ?_ (HV.out.1.a.drewM nq) HV.out.1.o (HV.out.1.c.drewD nq)⟩
          rw [HN.out.1, HN.out.2.1]; exact HV.out.2.1.drewM nq
      · have e5 := ECB2.out.symm
        simp only [Bool.and_eq_true, decide_eq_true_eq] at e5
        have eS : S2 = 3 := by rw [HB.out.2.2.1, if_pos e5]
        have eT2 : TD = told := by rw [HB.out.2.2.2.1, if_neg (by rw [eS]; decide)]
        have eEB : EB = true := by rw [HB.out.2.2.2.2.2, eS]; rfl
        have bY : mB (V.setCell ⟨g, 0, none⟩ (.int .i64 3)) g 3 win told (p : Int) final (T.length : Nat) m.sized vd vt := bk_set HV.out.2.1 0 _
        have AY := HV.out.1.a.setG HV.out.2.2.1 HV.out.2.2.2.1 0 (.int .i64 3)
        have oY := (Only.setCell (w := V) ⟨g, 0, none⟩ (.int .i64 3)).owns HV.out.1.o (fun t ht e => HV.out.2.2.2.2 t ht (Option.some.inj e))
        have cY := HV.out.1.c.setD g 0 (.int .i64 3) (Or.inl HV.out.1.a.dg)
        have HN : Hid _ := And.intro eS (And.intro eT2 (And.intro eEB (And.intro bY (And.intro AY (And.intro oY cY)))))
        clear eT2 eS eEB e5 ecb2 ECB2 bY AY oY cY
        go_upto_region 14 with fail
        go_quiet (fail)
        go_wp2_with fail
        go_ret3
        obtain ⟨eS, eT2, eEB, bY, AY, oY, cY⟩ := HN.out
        refine ⟨_, by rw [HB.out.2.2.2.2.1, eEB]; rfl, FIN.out _ ?_ (AY.drewM nq) oY (cY.drewD nq)⟩
        rw [eS, eT2]; exact bY.drewM nq
    · have e3 := ECB.out.symm
      simp only [Bool.and_eq_true, decide_eq_true_eq] at e3
      obtain ⟨⟨g1, g2⟩, g3⟩ := e3
      obtain ⟨b, cap, ev, hc, _⟩ := row_byte H1.out.1.a.od rfl p (by rw [← HE.out.2.2.2.2.2]; exact g2)
      rw [ed, ← HE.out.2.2.2.2.2] at ev
      simp only [Value.slice.injEq] at ev
      obtain ⟨rfl, -, rfl⟩ := ev
      obtain ⟨x, ex⟩ : ∃ x, x = (PL.g T p).2 := ⟨_, rfl⟩
      rw [← ex] at hc
      have g2' : (p : Int) < (tl : Int) := by omega
      obtain ⟨W, eW⟩ : ∃ W, W = wr.drewN nn := ⟨_, rfl⟩
      have e3 : W.cell? ⟨g, 3, none⟩ = some (.int .i64 (p : Int)) := by rw [eW]; exact d3
      have e7 : W.cell? ⟨g, 7, none⟩ = some (.slice (some ⟨b, 0, none⟩) tl dc) := by rw [eW]; exact d7
      have ec : W.cell? ⟨b, p, none⟩ = some (.int .u8 x) := by rw [eW]; exact hc
      have GW : GetI w W D g base st win told rd final (T.length : Nat) m.sized T vd vt (.slice ra k rc') k := by
        rw [eW]; obtain ⟨q1, q2, q3, q4, q5, q6⟩ := H1.out.1
        exact ⟨q1, q2.drewM nn, q3, q4.drewD nn, q5, q6⟩
      have hWs : w.heap.size ≤ W.heap.size := GW.c.size
      have hkb : k + 1 ≤ 1099511627776 := by have := H1.out.2.2; omega
      obtain ⟨Ls, eLs⟩ : ∃ Ls : List Value, Ls = (((T.drop rd).take k).map (·.2)).map (Value.int .u8) := ⟨_, rfl⟩
      have oL : W.ownsRow w.heap.size 5 1 (.slice ra k rc') k Ls := by rw [eLs]; exact GW.o
      have HB : Hid _ := And.intro GW (And.intro ex (And.intro H1.out.2.2 (And.intro g3 (And.intro oL eLs))))
      have hgW : g < W.heap.size := GW.b.lt
      rw [← eW]
      clear eW GW ex hc d3 d7 d8 ecb ECB H1 g3 oL eLs
      go_upto_region 8 with fail
      go_cut [7] from 56 to 68 (fun v wx => ∃ ra2 rc2, v = .slice ra2 (k + 1) rc2 ∧ wx.ownsRow w.heap.size 5 1 v (k + 1) (Ls ++ [.int .u8 x]) ∧ Chg (fun t => some t = (Value.slice ra k rc').ownBlock) W wx)
      case first =>
        go_region_law (refine step_append_one rfl (.tmp 56) (.tmp 67) 47 5 (.int .u8 0) 1 rfl (by decide) rfl Tryd.underlying47 infoU8 w.heap.size (.slice ra k rc') k Ls rfl (drewOwns (alloc_owns HB.out.2.2.2.2.1 _)) W.heap.size (.int .u8 x) rfl rfl (lit1d W _ _) hkb (Nat.le_trans hWs (by rw [size_drew]; simp)) ?_; intro v' w6 o6 g6)
        all_goals
          go_wp2_with fail
          go_meet
          obtain ⟨ra2, rc2, e2⟩ := own_form o6
          exact ⟨ra2, rc2, e2, o6, (Chg.drewD1 (alloc_chg W _)).trans (grown_chg g6)⟩
      case rest =>
      obtain ⟨ra2, rc2, rfl, o6, ch6⟩ := hcut
      have nr : ∀ t, (Value.slice ra k rc').ownBlock = some t → w.heap.size ≤ t := fun t ht => (HB.out.1.o.lt t ht).1
      have b6 : mB wc g st win told ((rd + k : Nat) : Int) final (T.length : Nat) m.sized vd vt := (ch6.block g hgW (fun e => by have := nr g e.symm; omega)).trans HB.out.1.b
      have k3 : wc.cell? ⟨g, 3, none⟩ = some (.int .i64 (p : Int)) := by rw [HB.out.2.2.1]; exact (bk_cell b6 3).trans rfl
      have f3 := bk_free b6 3
      have hg6 := b6.lt
      have H6 : Hid _ := And.intro b6 (And.intro o6 (And.intro ch6 nr))
      clear b6 o6 ch6 nr e3 e7 ec
      go_wp2_with fail
      go_roundg (tl - p)
      case measure => omega
      case rel =>
        obtain ⟨b6, o6, ch6, nr⟩ := H6.out
        obtain ⟨GW, ex, ep, g3, oL, eLs⟩ := HB.out
        have ech : Chg D w wc := GW.c.trans' ch6 (fun t ht e => by have := nr t e.symm; omega)
        refine ⟨k + 1, by omega, ⟨?_, ?_, ?_, ?_, fun i hi => ?_, ?_⟩, by omega⟩
        · have e5 : ((rd + (k + 1) : Nat) : Int) = (p : Int) + 1 := by omega
          rw [e5]
          exact bk_set b6 3 _
        · have A6 : MA wc D g base T vd vt := ⟨ownsChg ch6 GW.a.od (fun t ht e => by have := nr t e.symm; have := GW.a.lt t (GW.a.dd t ht); exact absurd (HD.out t (GW.a.dd t ht)) (by omega)), ownsChg ch6 GW.a.ot (fun t ht e => by have := nr t e.symm; exact absurd (HD.out t (GW.a.dt t ht)) (by omega)), GW.a.dg, GW.a.dd, GW.a.dt, fun t ht => Nat.lt_of_lt_of_le (GW.a.lt t ht) ch6.size, GW.a.gb⟩
          exact A6.setG (own_gt A6.ot b6 (by decide)) (own_gt A6.od b6 (by decide)) 3 _
        · rw [take_one T rd k (by rw [← HE.out.2.2.2.2.2]; omega), List.map_append, ← ep, ← ex, ← eLs]
          exact (Only.setCell (w := wc) ⟨g, 3, none⟩ _).owns o6 (fun t ht e => by have h1 := (o6.lt t ht).1; have h2 := Option.some.inj e; simp at h2; omega)
        · exact ech.setD g 3 _ (Or.inl GW.a.dg)
        · by_cases e : i = k
          · rw [e, ← ep]; exact g3
          · exact GW.al i (by omega)
        · have := HE.out.2.2.2.2.2; omega
end Go.Proofs.YtajachmhppoodaaDoor
