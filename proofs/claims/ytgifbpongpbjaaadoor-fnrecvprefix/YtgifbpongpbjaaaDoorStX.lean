import Derived.Test.YtgifbpongpbjaaaDoorStW
import Derived.Test.YtgifbpongpbjaaaDoorCreditNextLaw
namespace Go.Proofs.YtgifbpongpbjaaaDoor
open Go.RowKit
set_option linter.unusedVariables false

/-- k places from first on are there, and no more may be given to one who asks for n. -/
def Rdy (L : List (Bool × Int)) (win first : Nat) (n : Int) (k : Nat) : Prop :=
  (k : Int) ≤ n ∧ k ≤ win ∧ (∀ i, i < k → (L.getD ((first + i) % win) (false, 0)).1 = true) ∧ ((k : Int) = n ∨ k = win ∨ (L.getD ((first + k) % win) (false, 0)).1 = false)
theorem thereC (g c win st first : Nat) (came gr fin told n : Int) (L : List (Bool × Int)) (w : World)
    (hb : rcB w g c win st first came gr fin told) (hr : rgB w c L) (hL : L.length = win) (hw : 0 < win) (hwm : win ≤ 16384) (hf : first ≤ 1000000) (hn : 1 ≤ n) :
    Calls Tryd.prog 19 #[.pointer (some ⟨g, 0, none⟩), .int .i64 n] w fun e w' => ∃ k : Nat, e = .returned (.int .i64 (k : Int)) ∧ Rdy L win first n k ∧ ∃ m, w' = w.drewN m := by
  by_cases h : n ≤ (win : Int)
  · obtain ⟨M, rfl⟩ : ∃ M : Nat, n = (M : Int) := ⟨n.toNat, by omega⟩
    refine (thereA g c win st first came gr fin told M L w hb hr hL hw hwm hf (by omega)).mono ?_
    rintro e w' ⟨k, rfl, k1, k2, k3, m, rfl⟩
    exact ⟨k, rfl, ⟨by omega, by omega, k2, k3.elim (fun e => Or.inl (by omega)) (fun e => Or.inr (Or.inr e))⟩, m, rfl⟩
  · refine (thereB g c win st first came gr fin told n win L w hb hr hL hw hwm hf rfl (by omega)).mono ?_
    rintro e w' ⟨k, rfl, k1, k2, k3, m, rfl⟩
    exact ⟨k, rfl, ⟨by omega, by omega, k2, k3.elim (fun e => Or.inr (Or.inl e)) (fun e => Or.inr (Or.inr e))⟩, m, rfl⟩
theorem rcB.first {w w' : World} {g c win st : Nat} {first came gr fin told x : Int} (h : rcB w g c win st first came gr fin told) (e : w'.heap[g]? = (w.setCell ⟨g, 3, none⟩ (.int .i64 x)).heap[g]?) : rcB w' g c win st x came gr fin told := e.trans (bk_set h 3 _)
/-- What a read gives and leaves. -/
def RdP (L : List (Bool × Int)) (g c win st first came gr : Nat) (fin told n : Int) (w : World) (e : Ending) (w' : World) : Prop :=
  ∃ (k : Nat) (r : Value), e = .returned (.tuple #[r, .int .i64 0]) ∧ Rdy L win first n k ∧ w'.ownsRow w.heap.size 5 1 r k (((shO L (first % win) k (min k (win - first % win))).map (·.2)).map (Value.int .u8)) ∧ rgB w' c (shL L (first % win) k (min k (win - first % win))) ∧
    rcB w' g c win (if (first : Int) + k = fin ∧ st = 2 then 3 else st) ((first : Int) + k) came gr fin (if st = 0 then cnV ((first : Int) + k) win told else told) ∧ Chg (K2 g c) w w'
theorem infoUb : (Tryd.prog.info? 5).map (fun i => (i.zero, i.size, i.bytes)) = some (some (.int .u8 0), 1, 1) := by kernel_rfl
set_option maxRecDepth 20000 in
set_option maxHeartbeats 4000000 in
theorem readI (g c win st first came gr : Nat) (fin told n : Int) (L : List (Bool × Int)) (w : World) (h : 1 ≤ n) (hs : st < 4) (ht : TabF w) (h0 : 0 < w.heap.size) (hne : ¬ K2 g c 0) (hb : rcB w g c win st first came gr fin told)
    (hr : rgB w c L) (hL : L.length = win) (hw : 0 < win) (hwm : win ≤ 16384) (hf : first ≤ 1000000) (hgc : g ≠ c) (hto : 0 ≤ told ∧ told ≤ 1000000) :
    Calls Tryd.prog 13 #[.pointer (some ⟨g, 0, none⟩), .int .i64 n] w fun e w' => RdP L g c win st first came gr fin told n w e w' := by
  have C := turnR g c win st 5 first came gr fin told (by omega) (by decide) (by decide) w ht h0 hb
  rw [mt5 st (by omega), decide_eq_false (by omega)] at C
  have hgl : g < w.heap.size := (Array.getElem?_eq_some_iff.1 hb).1
  have hcl : c < w.heap.size := (Array.getElem?_eq_some_iff.1 hr).1
  have H0 : Hid _ := And.intro hr (And.intro hL (And.intro ht True.intro))
  clear hb ht hr hL
  go_enter Tryd.func13, Tryd.ntmps13
  go_wp2_with fail
  go_at_call 17
  refine C.mono ?_
  rintro e w1 ⟨rfl, rb, ch⟩
  have rb1 : rcB w1 g c win st first came gr fin told := rb
  have d1 : w1.cell? ⟨g, 1, none⟩ = some (.int .i64 (st : Int)) := (bk_cell rb1 1).trans rfl
  have rr1 : rgB w1 c L := H0.out.1.chg ch hgc
  have ht1 := H0.out.2.2.1.chg ch h0 (fun e => hne (Or.inl e))
  have b5 : ((st : Int) == 5) = false := by simp; omega
  have H1 : Hid _ := And.intro rb1 (And.intro rr1 (And.intro ht1 (And.intro (ch.k2 (c := c)) (And.intro (Nat.lt_of_lt_of_le hgl ch.size) (Nat.lt_of_lt_of_le hcl ch.size)))))
  clear rb rb1 rr1 ht1 ch C
  go_upto_region 5 with fail
  go_cut [6] from 11 to 30 (fun v wx => ∃ k b : Nat, v = .slice (some ⟨b, 0, none⟩) k k ∧ w1.heap.size ≤ b ∧ Rdy L win first n k ∧ rgB wx b (shO L (first % win) k (min k (win - first % win))) ∧ rgB wx c (shL L (first % win) k (min k (win - first % win))) ∧ rcB wx g c win st ((first : Int) + k) came gr fin told ∧ Chg (K2 g c) w1 wx)
  case first =>
    have CT := thereC g c win st first came gr fin told n L w1.drew H1.out.1 H1.out.2.1 H0.out.2.1 hw hwm hf h
    have HT : Hid _ := And.intro CT True.intro
    clear CT
    go_region_with (first
      | (go_at_call 19; refine HT.out.1.mono ?_; rintro e wy ⟨k, rfl, rdy, q, rfl⟩; have CSh := shiftI g 2 c win first k (first % win) (min k (win - first % win)) L (w1.drewN (1 + q)) ((bk_cell H1.out.1 2).trans rfl) ((bk_cell H1.out.1 3).trans rfl) (bk_free H1.out.1 3) H1.out.2.1 H0.out.2.1 hw hwm rdy.2.1 hf hgc H1.out.2.2.2.2.1 rfl rfl; have HS : Hid _ := And.intro CSh (And.intro rdy True.intro); clear CSh rdy)
      | (go_at_call 18; refine HS.out.1.mono ?_; rintro e wz ⟨rfl, s1, s2, s3, s4⟩))
    all_goals
      go_simp
      go_wp2_with fail
      go_meet
      refine ⟨k, _, rfl, Nat.le_refl _, HS.out.2.1, s1, s2, rcB.first (w := w1.drewN (1 + q)) H1.out.1 s3, (show Chg (K2 g c) w1 (w1.drewN (1 + q)) from ⟨rfl, rfl, rfl, Nat.le_refl _, fun _ _ _ => rfl⟩).trans s4⟩
  case rest =>
    obtain ⟨k, b, rfl, hbk, rdy, ro, rL, rb, ch⟩ := hcut
    have hk := rdy.2.1
    obtain ⟨O, eO⟩ : ∃ O, shO L (first % win) k (min k (win - first % win)) = O := ⟨_, rfl⟩
    rw [eO] at ro
    have hOl : O.length = k := by
      rw [← eO]
      unfold shO
      have hm := Nat.mod_lt first hw
      rw [cpL_length _ _ _ _ _ (by rw [H0.out.2.1]; omega) (by rw [cpL_length _ _ _ _ _ (by rw [H0.out.2.1]; omega) (by simp; omega)]; simp; omega), cpL_length _ _ _ _ _ (by rw [H0.out.2.1]; omega) (by simp; omega)]
      simp
    have hbl : b < wc.heap.size := (Array.getElem?_eq_some_iff.1 ro).1
    have H5 : Hid _ := And.intro rdy (And.intro ro (And.intro rL (And.intro rb (And.intro ch (And.intro eO (And.intro hOl hbk))))))
    clear rdy ro rL rb ch eO d1
    obtain ⟨i0, hi, hz0, hz1, hz2⟩ := info_parts infoUb
    go_wp2_with (at_make; refine wpList_make_full _ rfl _ _ 22 rfl wc.heap.size 5 i0 (.int .u8 0) 1 Tryd.underlying22 hi hz0 hz1 .i64 .i64 (k : Int) (k : Int) k rfl rfl rfl rfl (by rw [hz2]; omega) (by unfold maxLen; omega) (Nat.le_refl _) ?_; intro w6 o6 g6)
    have o6' := made_zero (kd := .u8) o6
    have B6 : Below wc.heap.size wc w6 := (Below.refl _ _).grown g6 (Nat.le_refl _) (by intro k hk; cases hk)
    have H6 : Hid _ := And.intro o6' B6
    clear o6 o6' g6 B6
    go_loopg [36] k (fun q i wr => ∃ j : Nat, j ≤ k ∧ q = k - j ∧ i = .int .i64 (j : Int) ∧ ∃ zs : List Int, zs.length = k ∧ (∀ i, i < j → zs.getD i 0 = (O.getD i (false, 0)).2) ∧ wr.ownsRow wc.heap.size 5 1 (.slice (some ⟨wc.heap.size, 0, none⟩) k k) k (zs.map (Value.int .u8)) ∧ Below wc.heap.size wc wr)
    case atStart => exact ⟨0, by omega, by omega, rfl, List.replicate k 0, by simp, fun i h => by omega, H6.out.1, H6.out.2⟩
    case round =>
      obtain ⟨j, hj, hq, rfl, zs, zl, zv, ow, bw⟩ := hrel
      by_cases hlt : j < k
      · have r0 := (bw.cell (p := ⟨b, j * 2, none⟩) hbl).trans (H5.out.2.1.c0 j (by rw [hOl]; exact hlt))
        have r1 := (bw.cell (p := ⟨b, j * 2 + 1, none⟩) hbl).trans (H5.out.2.1.c1 j (by rw [hOl]; exact hlt))
        have hz : (O.getD j (false, 0)).2 = (fun i => (O.getD i (false, 0)).2) j := rfl
        generalize hy : O.getD j (false, 0) = y at r0 r1 hz
        obtain ⟨y1, y2⟩ := y
        simp only at r0 r1 hz
        have BA : Below wr.heap.size wr (wr.alloc (.cells #[.bool y1, .int .u8 y2] 55)) := (Below.refl _ _).alloc (Nat.le_refl _) _
        have oA := owns_below ow BA
        have bA := bw.alloc bw.size (.cells #[.bool y1, .int .u8 y2] 55)
        have R := fill_step (f := fun i => (O.getD i (false, 0)).2) (x := y2) hz zl hlt zv oA bA (Nat.le_refl _)
        have f1 := oA.frozenAt j
        have c1 := owns_cell oA zl hlt
        obtain ⟨ys, R⟩ := R
        have HR : Hid _ := R
        clear R zl zv ow bw BA oA bA hz
        go_wp2
        go_roundg (k - (j + 1))
        case measure => omega
        case rel =>
          obtain ⟨r1, r2, r3, r4⟩ := HR.out
          exact ⟨j + 1, by omega, rfl, by go_num, ys, r1, r2, r3, r4⟩
      · obtain rfl : k = j := by omega
        have ez : zs = O.map (·.2) := by
          apply list_eq_of_getD zl (by rw [List.length_map]; exact hOl)
          intro i hi
          rw [zv i hi]
          simp [List.getD, hOl, hi]
        rw [ez] at ow
        have rbW : rcB wr g c win st ((first : Int) + k) came gr fin told := (bw.block g (Array.getElem?_eq_some_iff.1 H5.out.2.2.2.1).1).trans H5.out.2.2.2.1
        have rLW := H5.out.2.2.1.below (Below.mono bw (Nat.le_refl _))
        have z1 : 0 < w1.heap.size := Nat.lt_of_lt_of_le h0 H1.out.2.2.2.1.size
        have htc := H1.out.2.2.1.chg H5.out.2.2.2.2.1 z1 hne
        have zc : 0 < wc.heap.size := Nat.lt_of_lt_of_le z1 H5.out.2.2.2.2.1.size
        have htW := htc.below bw zc
        have zW : 0 < wr.heap.size := Nat.lt_of_lt_of_le zc bw.size
        have chW : Chg (K2 g c) w wr := (H1.out.2.2.2.1.trans H5.out.2.2.2.2.1).trans (Chg.of_below bw)
        have hsz : w.heap.size ≤ wc.heap.size := Nat.le_trans H1.out.2.2.2.1.size H5.out.2.2.2.2.1.size
        have hcg : wc.heap.size ≠ g := by have := (Array.getElem?_eq_some_iff.1 H5.out.2.2.2.1).1; omega
        have c3 : wr.cell? ⟨g, 3, none⟩ = some (.int .i64 ((first : Int) + k)) := (bk_cell rbW 3).trans rfl
        have c6 : wr.cell? ⟨g, 6, none⟩ = some (.int .i64 fin) := (bk_cell rbW 6).trans rfl
        have HW : Hid _ := And.intro rbW (And.intro rLW (And.intro htW (And.intro zW (And.intro chW (And.intro ow (And.intro hsz hcg))))))
        clear rbW rLW htW zW chW ow zl zv ez bw htc zc z1 hsz
        have hjd : decide ((k : Int) < (k : Int)) = false := decide_eq_false (by omega)
        go_wp2_with fail
        go_quiet (fail)
        have HV : Hid (rcB (wr.drewN nq) g c win st ((first : Int) + k) came gr fin told ∧ rgB (wr.drewN nq) c (shL L (first % win) k (min k (win - first % win))) ∧ TabF (wr.drewN nq) ∧ 0 < (wr.drewN nq).heap.size ∧ Chg (K2 g c) w (wr.drewN nq) ∧ (wr.drewN nq).ownsRow wc.heap.size 5 1 (.slice (some ⟨wc.heap.size, 0, none⟩) k k) k ((O.map (·.2)).map (Value.int .u8))) :=
          ⟨HW.out.1, HW.out.2.1, HW.out.2.2.1.chg (S := fun _ => False) ⟨rfl, rfl, rfl, Nat.le_refl _, fun _ _ _ => rfl⟩ HW.out.2.2.2.1 (fun e => e), HW.out.2.2.2.1, HW.out.2.2.2.2.1.trans ⟨rfl, rfl, rfl, Nat.le_refl _, fun _ _ _ => rfl⟩, HW.out.2.2.2.2.2.1⟩
        obtain ⟨i7, i8⟩ := HW.out.2.2.2.2.2.2
        have HI : Hid _ := And.intro i7 i8
        clear HW c3 c6 i7 i8
        generalize wr.drewN nq = W at HV ⊢
        by_cases heq : (first : Int) + k = fin
        · have bq : (((first : Int) + k) == fin) = true := by simpa using heq
          have C7 := turnR g c win st 3 ((first : Int) + k) came gr fin told (by omega) (by decide) (by decide) W HV.out.2.2.1 HV.out.2.2.2.1 HV.out.1
          rw [mt3 st (by omega)] at C7
          go_wp2_with fail
          go_at_call 17
          refine C7.mono ?_
          rintro e w7 ⟨rfl, rb7, c7⟩
          obtain ⟨s7, es7⟩ : ∃ s7, s7 = (if (first : Int) + k = fin ∧ st = 2 then 3 else st) := ⟨_, rfl⟩
          have rb8 : rcB w7 g c win s7 ((first : Int) + k) came gr fin told := by
            rw [es7]
            by_cases h2 : st = 2
            · rw [if_pos ⟨heq, h2⟩]; rw [decide_eq_true h2] at rb7; exact rb7
            · rw [if_neg (fun x => h2 x.2)]; rw [decide_eq_false h2] at rb7; exact rb7
          have Z7 : Hid (s7 = 0 ↔ st = 0) := by
            rw [es7]
            by_cases h2 : st = 2
            · rw [if_pos ⟨heq, h2⟩]; constructor <;> intro h <;> omega
            · rw [if_neg (fun x => h2 x.2)]; exact Iff.rfl
          have E7 : Hid _ := es7
          have H7 : Hid _ := And.intro rb8 (And.intro (HV.out.2.1.chg c7 hgc) (And.intro (HV.out.2.2.2.2.1.trans c7.k2) (c7.owns HV.out.2.2.2.2.2 (fun q hq => by simp [Value.ownBlock] at hq; subst hq; exact HI.out.2))))
          clear rb7 rb8 c7 C7 es7 bq heq
          have d1 : w7.cell? ⟨g, 1, none⟩ = some (.int .i64 (s7 : Int)) := (bk_cell H7.out.1 1).trans rfl
          by_cases hz : st = 0
          · have hz7 : s7 = 0 := Z7.out.2 hz
            have b7 : ((s7 : Int) == 0) = true := by rw [hz7]; rfl
            obtain ⟨T, eT⟩ : ∃ T, T = cnV ((first : Int) + k) win told := ⟨_, rfl⟩
            have hfin : Hid ((if st = 0 then cnV ((first : Int) + k) win told else told) = T) := by show _ = _; rw [if_pos hz, eT]
            have CN : ∀ u : World, Calls Tryd.prog 20 #[.int .i64 ((first : Int) + k), .int .i64 (win : Int), .int .i64 told] u (fun e w' => e = .returned (.int .i64 T) ∧ w' = u) := fun u => by rw [eT]; exact implCN ((first : Int) + k) win told u
            have HN : Hid _ := And.intro CN True.intro
            clear CN eT
            go_upto_region 15 with fail
            have e3 : w7.drew.cell? ⟨g, 3, none⟩ = some (.int .i64 ((first : Int) + k)) := (bk_cell H7.out.1 3).trans rfl
            have e2 : w7.drew.cell? ⟨g, 2, none⟩ = some (.slice (some ⟨c, 0, none⟩) win win) := (bk_cell H7.out.1 2).trans rfl
            have e7 : w7.drew.cell? ⟨g, 7, none⟩ = some (.int .i64 told) := (bk_cell H7.out.1 7).trans rfl
            have g7 : w7.drew.frozen? ⟨g, 7, none⟩ = false := bk_free H7.out.1 7
            go_region_with (go_at_call 20; refine (HN.out.1 _).mono ?_; rintro e wy ⟨rfl, rfl⟩)
            all_goals
              go_simp
              go_wp2_with fail
              go_ret2
              refine ⟨k, _, rfl, H5.out.1, ?_, ?_, ?_, ?_⟩
              · have o9 : w7.drew.ownsRow wc.heap.size 5 1 (.slice (some ⟨wc.heap.size, 0, none⟩) k k) k ((O.map (·.2)).map (Value.int .u8)) := H7.out.2.2.2
                rw [H5.out.2.2.2.2.2.1]
                exact owns_mono ((Only.setCell (w := w7.drew) ⟨g, 7, none⟩ _).owns o9 (fun k2 h2 => by simp [Value.ownBlock] at h2; subst h2; simpa using HI.out.2)) HI.out.1
              · exact (bk_other (w := w7.drew) (Ne.symm hgc) 7 _).trans H7.out.2.1
              · rw [hfin.out, ← E7.out]
                exact bk_set (w := w7.drew) H7.out.1 7 _
              · exact (H7.out.2.2.1.trans ⟨rfl, rfl, rfl, Nat.le_refl _, fun _ _ _ => rfl⟩ : Chg (K2 g c) w w7.drew).set' g 7 _ (Or.inl rfl)
          · have hz7 : s7 ≠ 0 := fun e => hz (Z7.out.1 e)
            have b7 : ((s7 : Int) == 0) = false := by simp; omega
            have hfin : Hid ((if st = 0 then cnV ((first : Int) + k) win told else told) = told) := if_neg hz
            go_wp2_with fail
            go_ret2
            refine ⟨k, _, rfl, H5.out.1, ?_, H7.out.2.1, ?_, H7.out.2.2.1⟩
            · rw [H5.out.2.2.2.2.2.1]; exact owns_mono H7.out.2.2.2 HI.out.1
            · rw [hfin.out, ← E7.out]; exact H7.out.1
        · have bq : (((first : Int) + k) == fin) = false := by simpa using heq
          obtain ⟨s7, es7⟩ : ∃ s7, s7 = (if (first : Int) + k = fin ∧ st = 2 then 3 else st) := ⟨_, rfl⟩
          have e7s : s7 = st := by rw [es7, if_neg (fun x => heq x.1)]
          have Z7 : Hid (s7 = 0 ↔ st = 0) := by rw [e7s]; exact Iff.rfl
          have E7 : Hid _ := es7
          have H7 : Hid (rcB W g c win s7 ((first : Int) + k) came gr fin told ∧ rgB W c (shL L (first % win) k (min k (win - first % win))) ∧ Chg (K2 g c) w W ∧ W.ownsRow wc.heap.size 5 1 (.slice (some ⟨wc.heap.size, 0, none⟩) k k) k ((O.map (·.2)).map (Value.int .u8))) := by
            rw [e7s]; exact ⟨HV.out.1, HV.out.2.1, HV.out.2.2.2.2.1, HV.out.2.2.2.2.2⟩
          clear es7 e7s
          have d1 : W.cell? ⟨g, 1, none⟩ = some (.int .i64 (s7 : Int)) := (bk_cell H7.out.1 1).trans rfl
          by_cases hz : st = 0
          · have hz7 : s7 = 0 := Z7.out.2 hz
            have b7 : ((s7 : Int) == 0) = true := by rw [hz7]; rfl
            obtain ⟨T, eT⟩ : ∃ T, T = cnV ((first : Int) + k) win told := ⟨_, rfl⟩
            have hfin : Hid ((if st = 0 then cnV ((first : Int) + k) win told else told) = T) := by show _ = _; rw [if_pos hz, eT]
            have CN : ∀ u : World, Calls Tryd.prog 20 #[.int .i64 ((first : Int) + k), .int .i64 (win : Int), .int .i64 told] u (fun e w' => e = .returned (.int .i64 T) ∧ w' = u) := fun u => by rw [eT]; exact implCN ((first : Int) + k) win told u
            have HN : Hid _ := And.intro CN True.intro
            clear CN eT
            go_upto_region 15 with fail
            have e3 : W.drew.cell? ⟨g, 3, none⟩ = some (.int .i64 ((first : Int) + k)) := (bk_cell H7.out.1 3).trans rfl
            have e2 : W.drew.cell? ⟨g, 2, none⟩ = some (.slice (some ⟨c, 0, none⟩) win win) := (bk_cell H7.out.1 2).trans rfl
            have e7 : W.drew.cell? ⟨g, 7, none⟩ = some (.int .i64 told) := (bk_cell H7.out.1 7).trans rfl
            have g7 : W.drew.frozen? ⟨g, 7, none⟩ = false := bk_free H7.out.1 7
            go_region_with (go_at_call 20; refine (HN.out.1 _).mono ?_; rintro e wy ⟨rfl, rfl⟩)
            all_goals
              go_simp
              go_wp2_with fail
              go_ret2
              refine ⟨k, _, rfl, H5.out.1, ?_, ?_, ?_, ?_⟩
              · have o9 : W.drew.ownsRow wc.heap.size 5 1 (.slice (some ⟨wc.heap.size, 0, none⟩) k k) k ((O.map (·.2)).map (Value.int .u8)) := H7.out.2.2.2
                rw [H5.out.2.2.2.2.2.1]
                exact owns_mono ((Only.setCell (w := W.drew) ⟨g, 7, none⟩ _).owns o9 (fun k2 h2 => by simp [Value.ownBlock] at h2; subst h2; simpa using HI.out.2)) HI.out.1
              · exact (bk_other (w := W.drew) (Ne.symm hgc) 7 _).trans H7.out.2.1
              · rw [hfin.out, ← E7.out]
                exact bk_set (w := W.drew) H7.out.1 7 _
              · exact (H7.out.2.2.1.trans ⟨rfl, rfl, rfl, Nat.le_refl _, fun _ _ _ => rfl⟩ : Chg (K2 g c) w W.drew).set' g 7 _ (Or.inl rfl)
          · have hz7 : s7 ≠ 0 := fun e => hz (Z7.out.1 e)
            have b7 : ((s7 : Int) == 0) = false := by simp; omega
            have hfin : Hid ((if st = 0 then cnV ((first : Int) + k) win told else told) = told) := if_neg hz
            go_wp2_with fail
            go_ret2
            refine ⟨k, _, rfl, H5.out.1, ?_, H7.out.2.1, ?_, H7.out.2.2.1⟩
            · rw [H5.out.2.2.2.2.2.1]; exact owns_mono H7.out.2.2.2 HI.out.1
            · rw [hfin.out, ← E7.out]; exact H7.out.1
end Go.Proofs.YtgifbpongpbjaaaDoor
