import Derived.Test.YthbggabgklnhgaaDoorPjA
import Derived.Test.YthbggabgklnhgaaDoorPjB
import Derived.Laws.Rows
import Derived.BigRegion
import Derived.Deep.LoopGhost
namespace Go.Proofs.YthbggabgklnhgaaDoor
open Go.RowKit
set_option linter.unusedVariables false

theorem mt5 (st : Nat) (hs : st < 6) : mtV 0 st 5 = decide (st = 4) := by
  have : st = 0 ∨ st = 1 ∨ st = 2 ∨ st = 3 ∨ st = 4 ∨ st = 5 := by omega
  rcases this with rfl | rfl | rfl | rfl | rfl | rfl <;> rfl
theorem mt3 (st : Nat) (hs : st < 6) : mtV 0 st 3 = decide (st = 2) := by
  have : st = 0 ∨ st = 1 ∨ st = 2 ∨ st = 3 ∨ st = 4 ∨ st = 5 := by omega
  rcases this with rfl | rfl | rfl | rfl | rfl | rfl <;> rfl
theorem read_bad (g : Nat) (n : Int) (w : World) (h : n < 1) :
    Calls Tryd.prog 24 #[.pointer (some ⟨g, 0, none⟩), .int .i64 n] w fun e w' => e = .returned (.tuple #[.slice none 0 0, .int .i64 1]) ∧ w' = w := by
  go_enter Tryd.func24, Tryd.ntmps24
  go_wp2
  go_ret2
  exact ⟨rfl, rfl⟩
set_option maxRecDepth 20000 in
theorem read_reset (g c win : Nat) (first came gr fin told n : Int) (w : World) (h : 1 ≤ n) (ht : TabF w) (h0 : 0 < w.heap.size) (hb : rcB w g c win 4 first came gr fin told) :
    Calls Tryd.prog 24 #[.pointer (some ⟨g, 0, none⟩), .int .i64 n] w fun e w' => e = .returned (.tuple #[.slice none 0 0, .int .i64 23]) ∧ rcB w' g c win 5 first came gr fin told ∧ Chg (· = g) w w' := by
  have C := turnR g c win 4 5 first came gr fin told (by decide) (by decide) (by decide) w ht h0 hb
  rw [mt5 4 (by decide)] at C
  clear hb ht h0
  go_enter Tryd.func24, Tryd.ntmps24
  go_wp2_with fail
  go_at_call 28
  refine C.mono ?_
  rintro e w1 ⟨rfl, rb, ch⟩
  have H1 : Hid _ := And.intro rb ch
  clear rb ch C
  go_wp2
  go_ret2
  exact ⟨rfl, H1.out.1, H1.out.2⟩
set_option maxRecDepth 20000 in
theorem read_cut (g c win : Nat) (first came gr fin told n : Int) (w : World) (h : 1 ≤ n) (ht : TabF w) (h0 : 0 < w.heap.size) (hb : rcB w g c win 5 first came gr fin told) :
    Calls Tryd.prog 24 #[.pointer (some ⟨g, 0, none⟩), .int .i64 n] w fun e w' => e = .returned (.tuple #[.slice none 0 0, .int .i64 23]) ∧ rcB w' g c win 5 first came gr fin told ∧ Chg (· = g) w w' := by
  have C := turnR g c win 5 5 first came gr fin told (by decide) (by decide) (by decide) w ht h0 hb
  rw [mt5 5 (by decide)] at C
  clear hb ht h0
  go_enter Tryd.func24, Tryd.ntmps24
  go_wp2_with fail
  go_at_call 28
  refine C.mono ?_
  rintro e w1 ⟨rfl, rb, ch⟩
  have rb' : rcB w1 g c win 5 first came gr fin told := rb
  have d1 : w1.cell? ⟨g, 1, none⟩ = some (.int .i64 5) := (bk_cell rb' 1).trans rfl
  have H1 : Hid _ := And.intro rb' ch
  clear rb rb' ch C
  go_wp2
  go_ret2
  exact ⟨rfl, H1.out.1, H1.out.2⟩
end Go.Proofs.YthbggabgklnhgaaDoor

namespace Go.Proofs.YthbggabgklnhgaaDoor
open Go.RowKit
set_option linter.unusedVariables false

/-- k places from first on are there, and no more may be given to one who asks for n. -/
def Rdy (L : List (Bool × Int)) (win first : Nat) (n : Int) (k : Nat) : Prop :=
  (k : Int) ≤ n ∧ k ≤ win ∧ (∀ i, i < k → (L.getD ((first + i) % win) (false, 0)).1 = true) ∧ ((k : Int) = n ∨ k = win ∨ (L.getD ((first + k) % win) (false, 0)).1 = false)
theorem thereC (g c win st first : Nat) (came gr fin told n : Int) (L : List (Bool × Int)) (w : World)
    (hb : rcB w g c win st first came gr fin told) (hr : rgB w c L) (hL : L.length = win) (hw : 0 < win) (hwm : win ≤ 16384) (hf : first ≤ 1000000) (hn : 1 ≤ n) :
    Calls Tryd.prog 35 #[.pointer (some ⟨g, 0, none⟩), .int .i64 n] w fun e w' => ∃ k : Nat, e = .returned (.int .i64 (k : Int)) ∧ Rdy L win first n k ∧ ∃ m, w' = w.drewN m := by
  by_cases h : n ≤ (win : Int)
  · obtain ⟨M, rfl⟩ : ∃ M : Nat, n = (M : Int) := ⟨n.toNat, by omega⟩
    refine (thereA g c win st first came gr fin told M L w hb hr hL hw hwm hf (by omega)).mono ?_
    rintro e w' ⟨k, rfl, k1, k2, k3, m, rfl⟩
    exact ⟨k, rfl, ⟨by omega, by omega, k2, k3.elim (fun e => Or.inl (by omega)) (fun e => Or.inr (Or.inr e))⟩, m, rfl⟩
  · refine (thereB g c win st first came gr fin told n win L w hb hr hL hw hwm hf rfl (by omega)).mono ?_
    rintro e w' ⟨k, rfl, k1, k2, k3, m, rfl⟩
    exact ⟨k, rfl, ⟨by omega, by omega, k2, k3.elim (fun e => Or.inr (Or.inl e)) (fun e => Or.inr (Or.inr e))⟩, m, rfl⟩
theorem rcB.first {w w' : World} {g c win st : Nat} {first came gr fin told x : Int} (h : rcB w g c win st first came gr fin told) (e : w'.heap[g]? = (w.setCell ⟨g, 3, none⟩ (.int .i64 x)).heap[g]?) : rcB w' g c win st x came gr fin told := e.trans (bk_set h 3 _)
/-- What a read gives and leaves. -/
def RdP (L : List (Bool × Int)) (g c win st first came gr : Nat) (fin told n : Int) (w : World) (e : Ending) (w' : World) : Prop :=
  ∃ (k : Nat) (r : Value), e = .returned (.tuple #[r, .int .i64 0]) ∧ Rdy L win first n k ∧ w'.ownsRow w.heap.size 5 1 r k (((shO L (first % win) k (min k (win - first % win))).map (·.2)).map (Value.int .u8)) ∧ rgB w' c (shL L (first % win) k (min k (win - first % win))) ∧
    rcB w' g c win (if (first : Int) + k = fin ∧ st = 2 then 3 else st) ((first : Int) + k) came gr fin (if st = 0 then cnV ((first : Int) + k) win told else told) ∧ Chg (K2 g c) w w'
theorem infoUb : (Tryd.prog.info? 5).map (fun i => (i.zero, i.size, i.bytes)) = some (some (.int .u8 0), 1, 1) := by kernel_rfl
set_option maxRecDepth 20000 in
set_option maxHeartbeats 4000000 in
theorem readI (g c win st first came gr : Nat) (fin told n : Int) (L : List (Bool × Int)) (w : World) (h : 1 ≤ n) (hs : st < 4) (ht : TabF w) (h0 : 0 < w.heap.size) (hne : ¬ K2 g c 0) (hb : rcB w g c win st first came gr fin told)
    (hr : rgB w c L) (hL : L.length = win) (hw : 0 < win) (hwm : win ≤ 16384) (hf : first ≤ 1000000) (hgc : g ≠ c) (hto : 0 ≤ told ∧ told ≤ 1000000) :
    Calls Tryd.prog 24 #[.pointer (some ⟨g, 0, none⟩), .int .i64 n] w fun e w' => RdP L g c win st first came gr fin told n w e w' := by
  have C := turnR g c win st 5 first came gr fin told (by omega) (by decide) (by decide) w ht h0 hb
  rw [mt5 st (by omega), decide_eq_false (by omega)] at C
  have hgl : g < w.heap.size := (Array.getElem?_eq_some_iff.1 hb).1
  have hcl : c < w.heap.size := (Array.getElem?_eq_some_iff.1 hr).1
  have H0 : Hid _ := And.intro hr (And.intro hL (And.intro ht True.intro))
  clear hb ht hr hL
  go_enter Tryd.func24, Tryd.ntmps24
  go_wp2_with fail
  go_at_call 28
  refine C.mono ?_
  rintro e w1 ⟨rfl, rb, ch⟩
  have rb1 : rcB w1 g c win st first came gr fin told := rb
  have d1 : w1.cell? ⟨g, 1, none⟩ = some (.int .i64 (st : Int)) := (bk_cell rb1 1).trans rfl
  have rr1 : rgB w1 c L := H0.out.1.chg ch hgc
  have ht1 := H0.out.2.2.1.chg ch h0 (fun e => hne (Or.inl e))
  have b5 : ((st : Int) == 5) = false := by simp; omega
  have H1 : Hid _ := And.intro rb1 (And.intro rr1 (And.intro ht1 (And.intro (ch.k2 (c := c)) (And.intro (Nat.lt_of_lt_of_le hgl ch.size) (Nat.lt_of_lt_of_le hcl ch.size)))))
  clear rb rb1 rr1 ht1 ch C
  go_upto_region 5 with fail
  go_cut [6] from 11 to 30 (fun v wx => ∃ k b : Nat, v = .slice (some ⟨b, 0, none⟩) k k ∧ w1.heap.size ≤ b ∧ Rdy L win first n k ∧ rgB wx b (shO L (first % win) k (min k (win - first % win))) ∧ rgB wx c (shL L (first % win) k (min k (win - first % win))) ∧ rcB wx g c win st ((first : Int) + k) came gr fin told ∧ Chg (K2 g c) w1 wx)
  case first =>
    have CT := thereC g c win st first came gr fin told n L w1.drew H1.out.1 H1.out.2.1 H0.out.2.1 hw hwm hf h
    have HT : Hid _ := And.intro CT True.intro
    clear CT
    go_region_with (first
      | (go_at_call 35; refine HT.out.1.mono ?_; rintro e wy ⟨k, rfl, rdy, q, rfl⟩; have CSh := shiftI g 2 c win first k (first % win) (min k (win - first % win)) L (w1.drewN (1 + q)) ((bk_cell H1.out.1 2).trans rfl) ((bk_cell H1.out.1 3).trans rfl) (bk_free H1.out.1 3) H1.out.2.1 H0.out.2.1 hw hwm rdy.2.1 hf hgc H1.out.2.2.2.2.1 rfl rfl; have HS : Hid _ := And.intro CSh (And.intro rdy True.intro); clear CSh rdy)
      | (go_at_call 34; refine HS.out.1.mono ?_; rintro e wz ⟨rfl, s1, s2, s3, s4⟩))
    all_goals
      go_simp
      go_wp2_with fail
      go_meet
      refine ⟨k, _, rfl, Nat.le_refl _, HS.out.2.1, s1, s2, rcB.first (w := w1.drewN (1 + q)) H1.out.1 s3, (show Chg (K2 g c) w1 (w1.drewN (1 + q)) from ⟨rfl, rfl, rfl, Nat.le_refl _, fun _ _ _ => rfl⟩).trans s4⟩
  case rest =>
    obtain ⟨k, b, rfl, hbk, rdy, ro, rL, rb, ch⟩ := hcut
    have hk := rdy.2.1
    obtain ⟨O, eO⟩ : ∃ O, shO L (first % win) k (min k (win - first % win)) = O := ⟨_, rfl⟩
    rw [eO] at ro
    have hOl : O.length = k := by
      rw [← eO]
      unfold shO
      have hm := Nat.mod_lt first hw
      rw [cpL_length _ _ _ _ _ (by rw [H0.out.2.1]; omega) (by rw [cpL_length _ _ _ _ _ (by rw [H0.out.2.1]; omega) (by simp; omega)]; simp; omega), cpL_length _ _ _ _ _ (by rw [H0.out.2.1]; omega) (by simp; omega)]
      simp
    have hbl : b < wc.heap.size := (Array.getElem?_eq_some_iff.1 ro).1
    have H5 : Hid _ := And.intro rdy (And.intro ro (And.intro rL (And.intro rb (And.intro ch (And.intro eO (And.intro hOl hbk))))))
    clear rdy ro rL rb ch eO d1
    obtain ⟨i0, hi, hz0, hz1, hz2⟩ := info_parts infoUb
    go_wp2_with (at_make; refine wpList_make_full _ rfl _ _ 22 rfl wc.heap.size 5 i0 (.int .u8 0) 1 Tryd.underlying22 hi hz0 hz1 .i64 .i64 (k : Int) (k : Int) k rfl rfl rfl rfl (by rw [hz2]; omega) (by unfold maxLen; omega) (Nat.le_refl _) ?_; intro w6 o6 g6)
    have o6' := made_zero (kd := .u8) o6
    have B6 : Below wc.heap.size wc w6 := (Below.refl _ _).grown g6 (Nat.le_refl _) (by intro k hk; cases hk)
    have H6 : Hid _ := And.intro o6' B6
    clear o6 o6' g6 B6
    go_loopg [36] k (fun q i wr => ∃ j : Nat, j ≤ k ∧ q = k - j ∧ i = .int .i64 (j : Int) ∧ ∃ zs : List Int, zs.length = k ∧ (∀ i, i < j → zs.getD i 0 = (O.getD i (false, 0)).2) ∧ wr.ownsRow wc.heap.size 5 1 (.slice (some ⟨wc.heap.size, 0, none⟩) k k) k (zs.map (Value.int .u8)) ∧ Below wc.heap.size wc wr)
    case atStart => exact ⟨0, by omega, by omega, rfl, List.replicate k 0, by simp, fun i h => by omega, H6.out.1, H6.out.2⟩
    case round =>
      obtain ⟨j, hj, hq, rfl, zs, zl, zv, ow, bw⟩ := hrel
      by_cases hlt : j < k
      · have r0 := (bw.cell (p := ⟨b, j * 2, none⟩) hbl).trans (H5.out.2.1.c0 j (by rw [hOl]; exact hlt))
        have r1 := (bw.cell (p := ⟨b, j * 2 + 1, none⟩) hbl).trans (H5.out.2.1.c1 j (by rw [hOl]; exact hlt))
        have hz : (O.getD j (false, 0)).2 = (fun i => (O.getD i (false, 0)).2) j := rfl
        generalize hy : O.getD j (false, 0) = y at r0 r1 hz
        obtain ⟨y1, y2⟩ := y
        simp only at r0 r1 hz
        have BA : Below wr.heap.size wr (wr.alloc (.cells #[.bool y1, .int .u8 y2] 78)) := (Below.refl _ _).alloc (Nat.le_refl _) _
        have oA := owns_below ow BA
        have bA := bw.alloc bw.size (.cells #[.bool y1, .int .u8 y2] 78)
        have R := fill_step (f := fun i => (O.getD i (false, 0)).2) (x := y2) hz zl hlt zv oA bA (Nat.le_refl _)
        have f1 := oA.frozenAt j
        have c1 := owns_cell oA zl hlt
        obtain ⟨ys, R⟩ := R
        have HR : Hid _ := R
        clear R zl zv ow bw BA oA bA hz
        go_wp2
        go_roundg (k - (j + 1))
        case measure => omega
        case rel =>
          obtain ⟨r1, r2, r3, r4⟩ := HR.out
          exact ⟨j + 1, by omega, rfl, by go_num, ys, r1, r2, r3, r4⟩
      · obtain rfl : k = j := by omega
        have ez : zs = O.map (·.2) := by
          apply list_eq_of_getD zl (by rw [List.length_map]; exact hOl)
          intro i hi
          rw [zv i hi]
          simp [List.getD, hOl, hi]
        rw [ez] at ow
        have rbW : rcB wr g c win st ((first : Int) + k) came gr fin told := (bw.block g (Array.getElem?_eq_some_iff.1 H5.out.2.2.2.1).1).trans H5.out.2.2.2.1
        have rLW := H5.out.2.2.1.below (Below.mono bw (Nat.le_refl _))
        have z1 : 0 < w1.heap.size := Nat.lt_of_lt_of_le h0 H1.out.2.2.2.1.size
        have htc := H1.out.2.2.1.chg H5.out.2.2.2.2.1 z1 hne
        have zc : 0 < wc.heap.size := Nat.lt_of_lt_of_le z1 H5.out.2.2.2.2.1.size
        have htW := htc.below bw zc
        have zW : 0 < wr.heap.size := Nat.lt_of_lt_of_le zc bw.size
        have chW : Chg (K2 g c) w wr := (H1.out.2.2.2.1.trans H5.out.2.2.2.2.1).trans (Chg.of_below bw)
        have hsz : w.heap.size ≤ wc.heap.size := Nat.le_trans H1.out.2.2.2.1.size H5.out.2.2.2.2.1.size
        have hcg : wc.heap.size ≠ g := by have := (Array.getElem?_eq_some_iff.1 H5.out.2.2.2.1).1; omega
        have c3 : wr.cell? ⟨g, 3, none⟩ = some (.int .i64 ((first : Int) + k)) := (bk_cell rbW 3).trans rfl
        have c6 : wr.cell? ⟨g, 6, none⟩ = some (.int .i64 fin) := (bk_cell rbW 6).trans rfl
        have HW : Hid _ := And.intro rbW (And.intro rLW (And.intro htW (And.intro zW (And.intro chW (And.intro ow (And.intro hsz hcg))))))
        clear rbW rLW htW zW chW ow zl zv ez bw htc zc z1 hsz
        have hjd : decide ((k : Int) < (k : Int)) = false := decide_eq_false (by omega)
        go_wp2_with fail
        go_quiet (fail)
        have HV : Hid (rcB (wr.drewN nq) g c win st ((first : Int) + k) came gr fin told ∧ rgB (wr.drewN nq) c (shL L (first % win) k (min k (win - first % win))) ∧ TabF (wr.drewN nq) ∧ 0 < (wr.drewN nq).heap.size ∧ Chg (K2 g c) w (wr.drewN nq) ∧ (wr.drewN nq).ownsRow wc.heap.size 5 1 (.slice (some ⟨wc.heap.size, 0, none⟩) k k) k ((O.map (·.2)).map (Value.int .u8))) :=
          ⟨HW.out.1, HW.out.2.1, HW.out.2.2.1.chg (S := fun _ => False) ⟨rfl, rfl, rfl, Nat.le_refl _, fun _ _ _ => rfl⟩ HW.out.2.2.2.1 (fun e => e), HW.out.2.2.2.1, HW.out.2.2.2.2.1.trans ⟨rfl, rfl, rfl, Nat.le_refl _, fun _ _ _ => rfl⟩, HW.out.2.2.2.2.2.1⟩
        obtain ⟨i7, i8⟩ := HW.out.2.2.2.2.2.2
        have HI : Hid _ := And.intro i7 i8
        clear HW c3 c6 i7 i8
        generalize wr.drewN nq = W at HV ⊢
        by_cases heq : (first : Int) + k = fin
        · have bq : (((first : Int) + k) == fin) = true := by simpa using heq
          have C7 := turnR g c win st 3 ((first : Int) + k) came gr fin told (by omega) (by decide) (by decide) W HV.out.2.2.1 HV.out.2.2.2.1 HV.out.1
          rw [mt3 st (by omega)] at C7
          go_wp2_with fail
          go_at_call 28
          refine C7.mono ?_
          rintro e w7 ⟨rfl, rb7, c7⟩
          obtain ⟨s7, es7⟩ : ∃ s7, s7 = (if (first : Int) + k = fin ∧ st = 2 then 3 else st) := ⟨_, rfl⟩
          have rb8 : rcB w7 g c win s7 ((first : Int) + k) came gr fin told := by
            rw [es7]
            by_cases h2 : st = 2
            · rw [if_pos ⟨heq, h2⟩]; rw [decide_eq_true h2] at rb7; exact rb7
            · rw [if_neg (fun x => h2 x.2)]; rw [decide_eq_false h2] at rb7; exact rb7
          have Z7 : Hid (s7 = 0 ↔ st = 0) := by
            rw [es7]
            by_cases h2 : st = 2
            · rw [if_pos ⟨heq, h2⟩]; constructor <;> intro h <;> omega
            · rw [if_neg (fun x => h2 x.2)]; exact Iff.rfl
          have E7 : Hid _ := es7
          have H7 : Hid _ := And.intro rb8 (And.intro (HV.out.2.1.chg c7 hgc) (And.intro (HV.out.2.2.2.2.1.trans c7.k2) (c7.owns HV.out.2.2.2.2.2 (fun q hq => by simp [Value.ownBlock] at hq; subst hq; exact HI.out.2))))
          clear rb7 rb8 c7 C7 es7 bq heq
          have d1 : w7.cell? ⟨g, 1, none⟩ = some (.int .i64 (s7 : Int)) := (bk_cell H7.out.1 1).trans rfl
          by_cases hz : st = 0
          · have hz7 : s7 = 0 := Z7.out.2 hz
            have b7 : ((s7 : Int) == 0) = true := by rw [hz7]; rfl
            obtain ⟨T, eT⟩ : ∃ T, T = cnV ((first : Int) + k) win told := ⟨_, rfl⟩
            have hfin : Hid ((if st = 0 then cnV ((first : Int) + k) win told else told) = T) := by show _ = _; rw [if_pos hz, eT]
            have CN : ∀ u : World, Calls Tryd.prog 36 #[.int .i64 ((first : Int) + k), .int .i64 (win : Int), .int .i64 told] u (fun e w' => e = .returned (.int .i64 T) ∧ w' = u) := fun u => by rw [eT]; exact implCN ((first : Int) + k) win told u
            have HN : Hid _ := And.intro CN True.intro
            clear CN eT
            go_upto_region 15 with fail
            have e3 : w7.drew.cell? ⟨g, 3, none⟩ = some (.int .i64 ((first : Int) + k)) := (bk_cell H7.out.1 3).trans rfl
            have e2 : w7.drew.cell? ⟨g, 2, none⟩ = some (.slice (some ⟨c, 0, none⟩) win win) := (bk_cell H7.out.1 2).trans rfl
            have e7 : w7.drew.cell? ⟨g, 7, none⟩ = some (.int .i64 told) := (bk_cell H7.out.1 7).trans rfl
            have g7 : w7.drew.frozen? ⟨g, 7, none⟩ = false := bk_free H7.out.1 7
            go_region_with (go_at_call 36; refine (HN.out.1 _).mono ?_; rintro e wy ⟨rfl, rfl⟩)
            all_goals
              go_simp
              go_wp2_with fail
              go_ret2
              refine ⟨k, _, rfl, H5.out.1, ?_, ?_, ?_, ?_⟩
              · have o9 : w7.drew.ownsRow wc.heap.size 5 1 (.slice (some ⟨wc.heap.size, 0, none⟩) k k) k ((O.map (·.2)).map (Value.int .u8)) := H7.out.2.2.2
                rw [H5.out.2.2.2.2.2.1]
                exact owns_mono ((Only.setCell (w := w7.drew) ⟨g, 7, none⟩ _).owns o9 (fun k2 h2 => by simp [Value.ownBlock] at h2; subst h2; simpa using HI.out.2)) HI.out.1
              · exact (bk_other (w := w7.drew) (Ne.symm hgc) 7 _).trans H7.out.2.1
              · rw [hfin.out, ← E7.out]
                exact bk_set (w := w7.drew) H7.out.1 7 _
              · exact (H7.out.2.2.1.trans ⟨rfl, rfl, rfl, Nat.le_refl _, fun _ _ _ => rfl⟩ : Chg (K2 g c) w w7.drew).set' g 7 _ (Or.inl rfl)
          · have hz7 : s7 ≠ 0 := fun e => hz (Z7.out.1 e)
            have b7 : ((s7 : Int) == 0) = false := by simp; omega
            have hfin : Hid ((if st = 0 then cnV ((first : Int) + k) win told else told) = told) := if_neg hz
            go_wp2_with fail
            go_ret2
            refine ⟨k, _, rfl, H5.out.1, ?_, H7.out.2.1, ?_, H7.out.2.2.1⟩
            · rw [H5.out.2.2.2.2.2.1]; exact owns_mono H7.out.2.2.2 HI.out.1
            · rw [hfin.out, ← E7.out]; exact H7.out.1
        · have bq : (((first : Int) + k) == fin) = false := by simpa using heq
          obtain ⟨s7, es7⟩ : ∃ s7, s7 = (if (first : Int) + k = fin ∧ st = 2 then 3 else st) := ⟨_, rfl⟩
          have e7s : s7 = st := by rw [es7, if_neg (fun x => heq x.1)]
          have Z7 : Hid (s7 = 0 ↔ st = 0) := by rw [e7s]; exact Iff.rfl
          have E7 : Hid _ := es7
          have H7 : Hid (rcB W g c win s7 ((first : Int) + k) came gr fin told ∧ rgB W c (shL L (first % win) k (min k (win - first % win))) ∧ Chg (K2 g c) w W ∧ W.ownsRow wc.heap.size 5 1 (.slice (some ⟨wc.heap.size, 0, none⟩) k k) k ((O.map (·.2)).map (Value.int .u8))) := by
            rw [e7s]; exact ⟨HV.out.1, HV.out.2.1, HV.out.2.2.2.2.1, HV.out.2.2.2.2.2⟩
          clear es7 e7s
          have d1 : W.cell? ⟨g, 1, none⟩ = some (.int .i64 (s7 : Int)) := (bk_cell H7.out.1 1).trans rfl
          by_cases hz : st = 0
          · have hz7 : s7 = 0 := Z7.out.2 hz
            have b7 : ((s7 : Int) == 0) = true := by rw [hz7]; rfl
            obtain ⟨T, eT⟩ : ∃ T, T = cnV ((first : Int) + k) win told := ⟨_, rfl⟩
            have hfin : Hid ((if st = 0 then cnV ((first : Int) + k) win told else told) = T) := by show _ = _; rw [if_pos hz, eT]
            have CN : ∀ u : World, Calls Tryd.prog 36 #[.int .i64 ((first : Int) + k), .int .i64 (win : Int), .int .i64 told] u (fun e w' => e = .returned (.int .i64 T) ∧ w' = u) := fun u => by rw [eT]; exact implCN ((first : Int) + k) win told u
            have HN : Hid _ := And.intro CN True.intro
            clear CN eT
            go_upto_region 15 with fail
            have e3 : W.drew.cell? ⟨g, 3, none⟩ = some (.int .i64 ((first : Int) + k)) := (bk_cell H7.out.1 3).trans rfl
            have e2 : W.drew.cell? ⟨g, 2, none⟩ = some (.slice (some ⟨c, 0, none⟩) win win) := (bk_cell H7.out.1 2).trans rfl
            have e7 : W.drew.cell? ⟨g, 7, none⟩ = some (.int .i64 told) := (bk_cell H7.out.1 7).trans rfl
            have g7 : W.drew.frozen? ⟨g, 7, none⟩ = false := bk_free H7.out.1 7
            go_region_with (go_at_call 36; refine (HN.out.1 _).mono ?_; rintro e wy ⟨rfl, rfl⟩)
            all_goals
              go_simp
              go_wp2_with fail
              go_ret2
              refine ⟨k, _, rfl, H5.out.1, ?_, ?_, ?_, ?_⟩
              · have o9 : W.drew.ownsRow wc.heap.size 5 1 (.slice (some ⟨wc.heap.size, 0, none⟩) k k) k ((O.map (·.2)).map (Value.int .u8)) := H7.out.2.2.2
                rw [H5.out.2.2.2.2.2.1]
                exact owns_mono ((Only.setCell (w := W.drew) ⟨g, 7, none⟩ _).owns o9 (fun k2 h2 => by simp [Value.ownBlock] at h2; subst h2; simpa using HI.out.2)) HI.out.1
              · exact (bk_other (w := W.drew) (Ne.symm hgc) 7 _).trans H7.out.2.1
              · rw [hfin.out, ← E7.out]
                exact bk_set (w := W.drew) H7.out.1 7 _
              · exact (H7.out.2.2.1.trans ⟨rfl, rfl, rfl, Nat.le_refl _, fun _ _ _ => rfl⟩ : Chg (K2 g c) w W.drew).set' g 7 _ (Or.inl rfl)
          · have hz7 : s7 ≠ 0 := fun e => hz (Z7.out.1 e)
            have b7 : ((s7 : Int) == 0) = false := by simp; omega
            have hfin : Hid ((if st = 0 then cnV ((first : Int) + k) win told else told) = told) := if_neg hz
            go_wp2_with fail
            go_ret2
            refine ⟨k, _, rfl, H5.out.1, ?_, H7.out.2.1, ?_, H7.out.2.2.1⟩
            · rw [H5.out.2.2.2.2.2.1]; exact owns_mono H7.out.2.2.2 HI.out.1
            · rw [hfin.out, ← E7.out]; exact H7.out.1
end Go.Proofs.YthbggabgklnhgaaDoor

namespace Go.Proofs.YthbggabgklnhgaaDoor
open Go.RowKit
set_option linter.unusedVariables false

/-- The program's receiving part stands for m. -/
def Rep (w : World) (g c win : Nat) (m : MS) : Prop :=
  ∃ L : PL, rcB w g c win m.st m.read (cnt m.T : Nat) (m.T.length : Nat) (if m.sized then m.final else -1) m.told ∧ rgB w c L ∧ RR win m.read L m.T
theorem Rep.chg {w w' : World} {g c win : Nat} {m : MS} {S : Nat → Prop} (h : Rep w g c win m) (hc : Chg S w w') (hg : ¬ S g) (hcc : ¬ S c) : Rep w' g c win m := by
  obtain ⟨L, a, b, r⟩ := h
  exact ⟨L, (hc.block g (Array.getElem?_eq_some_iff.1 a).1 hg).trans a, (hc.block c (Array.getElem?_eq_some_iff.1 b).1 hcc).trans b, r⟩
theorem Rep.below {w w' : World} {g c win : Nat} {m : MS} (h : Rep w g c win m) (hb : Below w.heap.size w w') : Rep w' g c win m := by
  obtain ⟨L, a, b, r⟩ := h
  exact ⟨L, (hb.block g (Array.getElem?_eq_some_iff.1 a).1).trans a, (hb.block c (Array.getElem?_eq_some_iff.1 b).1).trans b, r⟩
/-- What the program's part needs of the world: the table, and where things lie. -/
structure Env (w : World) (g c win i : Nat) (m : MS) : Prop where
  tab : TabF w
  t0 : 0 < w.heap.size
  hne : ¬ K2 g c 0
  hgc : g ≠ c
  w1 : 1 ≤ win
  w2 : win ≤ 16384
  i4 : i ≤ 400
  inv : MI win i m
theorem Env.after {w w' : World} {g c win i : Nat} {m m' : MS} (h : Env w g c win i m) (hc : Chg (K2 g c) w w') (hi : i + 1 ≤ 400) (hm : MI win (i + 1) m') : Env w' g c win (i + 1) m' :=
  ⟨h.tab.chg hc h.t0 h.hne, Nat.lt_of_lt_of_le h.t0 hc.size, h.hne, h.hgc, h.w1, h.w2, hi, hm⟩
theorem Chg.of_eq' {S : Nat → Prop} {w w' : World} (h : w' = w) : Chg S w w' := by subst h; exact chg_of_eq _
theorem dataR (g c win i : Nat) (m : MS) (off : Int) (v : Value) (D : List Int) (fb : Bool) (w : World) (hE : Env w g c win i m) (hR : Rep w g c win m) (hrow : Row w .u8 v D) (hl : D.length ≤ 140737488355328) (ho : off ≤ 9223372036854775807)
    (hap : 0 < D.length → ∀ b o l cp, v = .slice (some ⟨b, o, none⟩) l cp → b ≠ g ∧ b ≠ c) :
    Calls Tryd.prog 22 #[.pointer (some ⟨g, 0, none⟩), .int .i64 off, v, .bool fb] w fun e w' => e = .returned (.int .i64 (mdata m off D fb).2) ∧ Rep w' g c win (mdata m off D fb).1 ∧ Chg (K2 g c) w w' := by
  obtain ⟨L, hb, hr, rr⟩ := id hR
  have I := hE.inv
  have hrd := I.read
  have hct : cnt m.T ≤ m.T.length := List.countP_le_length
  have hcn := I.cnt
  have htd := I.told
  have htt := I.toldT
  have hi4 := hE.i4
  have hw2 := hE.w2
  have hsz := I.szd
  have hfin := I.fin
  obtain ⟨av, dc, ev⟩ := hrow.form
  by_cases a1 : 1500 < D.length
  · have e : mdata m off D fb = (m, 1) := by unfold mdata; rw [if_pos (Or.inl a1)]
    rw [e, ev]
    refine (data_1 g c win m.st m.read (cnt m.T) m.T.length _ m.told off av D.length dc fb w hb a1 (by omega)).mono ?_
    rintro e w' ⟨rfl, hw⟩
    exact ⟨rfl, hw ▸ hR, Chg.of_eq' hw⟩
  by_cases a2 : off < 0
  · have e : mdata m off D fb = (m, 1) := by unfold mdata; rw [if_pos (Or.inr (Or.inl a2))]
    rw [e, ev]
    refine (data_2 g c win m.st m.read (cnt m.T) m.T.length _ m.told off av D.length dc fb w hb (by omega) a2).mono ?_
    rintro e w' ⟨rfl, hw⟩
    exact ⟨rfl, hw ▸ hR, Chg.of_eq' hw⟩
  by_cases a3 : 4611686018427387903 - (D.length : Int) < off
  · have e : mdata m off D fb = (m, 1) := by unfold mdata; rw [if_pos (Or.inr (Or.inr a3))]
    rw [e, ev]
    refine (data_3 g c win m.st m.read (cnt m.T) m.T.length _ m.told off av D.length dc fb w hb (by omega) (by omega) a3 ho).mono ?_
    rintro e w' ⟨rfl, hw⟩
    exact ⟨rfl, hw ▸ hR, Chg.of_eq' hw⟩
  by_cases a4 : m.told < off + D.length
  · have e : mdata m off D fb = (m, 8) := by unfold mdata; rw [if_neg (by omega), if_pos a4]
    rw [e, ev]
    refine (data_4 g c win m.st m.read (cnt m.T) m.T.length _ m.told off av D.length dc fb w hb (by omega) (by omega) (by omega) a4).mono ?_
    rintro e w' ⟨rfl, hw⟩
    exact ⟨rfl, hw ▸ hR, Chg.of_eq' hw⟩
  by_cases a5 : (m.sized = true ∧ (m.final < off + D.length ∨ (fb = true ∧ off + D.length ≠ m.final))) ∨ (fb = true ∧ off + D.length < m.T.length)
  · have e : mdata m off D fb = (m, 10) := by unfold mdata; rw [if_neg (by omega), if_neg a4, if_pos a5]
    rw [e, ev]
    by_cases a6 : m.sized = true ∧ m.final < off + D.length
    · have hf := hfin a6.1
      rw [a6.1, if_pos rfl] at hb
      refine (data_5 g c win m.st m.read (cnt m.T) m.T.length m.final m.told off av D.length dc fb w hb (by omega) (by omega) (by omega) (by omega) (by omega) a6.2).mono ?_
      rintro e w' ⟨rfl, hw⟩
      exact ⟨rfl, hw ▸ hR, Chg.of_eq' hw⟩
    · have hfb : fb = true := by
        rcases a5 with ⟨h1, h2 | h2⟩ | h2
        · exact absurd ⟨h1, h2⟩ a6
        · exact h2.1
        · exact h2.1
      refine (data_6 g c win m.st m.read (cnt m.T) m.T.length _ m.told off av D.length dc fb w hb (by omega) (by omega) (by omega) (by omega) ?_ hfb ?_).mono ?_
      · by_cases h1 : m.sized = true
        · rw [if_pos h1]; right
          have : ¬ m.final < off + D.length := fun e => a6 ⟨h1, e⟩
          omega
        · rw [if_neg h1]; exact Or.inl rfl
      · rintro ⟨h1, h2⟩
        rcases a5 with ⟨h3, h4 | h4⟩ | h4
        · exact a6 ⟨h3, h4⟩
        · rw [if_pos h3] at h2
          have := hfin h3
          rcases h2 with h5 | h5
          · omega
          · exact h4.2 h5
        · omega
      · rintro e w' ⟨rfl, hw⟩
        exact ⟨rfl, hw ▸ hR, Chg.of_eq' hw⟩
  have h6 : fb = true → ((m.T.length : Nat) : Int) ≤ off + D.length ∧ ((if m.sized then m.final else -1) = -1 ∨ off + D.length = (if m.sized then m.final else -1)) := fun hfb => by
    refine ⟨?_, ?_⟩
    · have : ¬ (off + (D.length : Int) < m.T.length) := fun e => a5 (Or.inr ⟨hfb, e⟩)
      omega
    · by_cases h1 : m.sized = true
      · rw [if_pos h1]; right
        have : ¬ (off + (D.length : Int) ≠ m.final) := fun e => a5 (Or.inl ⟨h1, Or.inr ⟨hfb, e⟩⟩)
        omega
      · rw [if_neg h1]; exact Or.inl rfl
  have h5 : m.sized = true → off + D.length ≤ m.final := fun h1 => by
    have : ¬ m.final < off + D.length := fun e => a5 (Or.inl ⟨h1, Or.inl e⟩)
    omega
  by_cases a8 : m.st < 2
  case neg =>
    have e : mdata m off D fb = (m, 0) := by unfold mdata; rw [if_neg (by omega), if_neg a4, if_neg a5, if_pos a8]
    rw [e, ev]
    have hs1 : m.sized = true := by rw [hsz]; simp; omega
    have hf := hfin hs1
    rw [hs1, if_pos rfl] at hb
    rw [hs1, if_pos rfl] at h6
    cases fb
    · refine (data_7fn g c win m.st m.read (cnt m.T) m.T.length m.final m.told off av D.length dc w hb (by omega) (by omega) (by omega) (by omega) (by omega) (h5 hs1) I.st (by omega) hE.tab hE.t0).mono ?_
      rintro e w' ⟨rfl, hbw⟩
      exact ⟨rfl, hR.below hbw, Chg.of_below hbw⟩
    · refine (data_7tn g c win m.st m.read (cnt m.T) m.T.length m.final m.told off av D.length dc w hb (by omega) (by omega) (by omega) (by omega) (by omega) (h5 hs1) (h6 rfl) I.st (by omega) hE.tab hE.t0).mono ?_
      rintro e w' ⟨rfl, hbw⟩
      exact ⟨rfl, hR.below hbw, Chg.of_below hbw⟩
  case pos =>
    obtain ⟨o, rfl⟩ : ∃ o : Nat, off = (o : Int) := ⟨off.toNat, by omega⟩
    have hto : ((o : Int)).toNat = o := rfl
    obtain ⟨T2, eT2⟩ : ∃ T2, T2 = putF (pad m.T (o + D.length)) o D D.length := ⟨_, rfl⟩
    have hT2l : T2.length = max m.T.length (o + D.length) := by rw [eT2, putF_length, pad_length]
    have KA := keep_all win m.read o D.length D L (pad m.T (o + D.length)) hE.w1 (rr.pad _) (fun p hp => by rw [pad_g]; exact I.low p hp) (by omega) (by rw [pad_length]; omega) D.length (Nat.le_refl _)
    rw [pad_cnt, ← eT2] at KA
    have hrow' := hrow
    have hK : ∀ u : World, Below w.heap.size w u → Calls Tryd.prog 33 #[.pointer (some ⟨g, 0, none⟩), .int .i64 (o : Int), v] u fun e w' => e = .returned (.tuple #[]) ∧ rcB w' g c win m.st m.read (cnt T2 : Nat) (T2.length : Nat) (if m.sized then m.final else -1) m.told ∧ rgB w' c (kfo m.read win o D (L, cnt m.T) D.length).1 ∧ Chg (K2 g c) u w' := by
      intro u hu
      have hb' : rcB u g c win m.st m.read (cnt m.T : Nat) (m.T.length : Nat) (if m.sized then m.final else -1) m.told := (hu.block g (Array.getElem?_eq_some_iff.1 hb).1).trans hb
      have hr' : rgB u c L := hr.below hu
      by_cases h0 : 0 < D.length
      · obtain ⟨b, do', cap, rfl, hbl, hc⟩ := (hrow'.below hu).at h0
        have hne := hap h0 b do' _ cap rfl
        refine (keepI g c win m.st m.read (cnt m.T) o b do' D.length cap m.T.length _ m.told D L u hb' hr' rr.1 hE.w1 hE.w2 hE.hgc rfl (by omega) hc hne.1 hne.2 hbl (by omega) (by omega) (by omega) (by omega)).mono ?_
        rintro e w' ⟨rfl, k1, k2, k3⟩
        rw [KA.1, ← hT2l] at k1
        exact ⟨rfl, k1, k2, k3⟩
      · have hD0 : D = [] := List.eq_nil_of_length_eq_zero (by omega)
        subst hD0
        rw [ev]
        refine (keep0 g c win m.st m.read (cnt m.T) o av dc m.T.length _ m.told u hb' hE.hgc L hr' (by omega) (by omega)).mono ?_
        rintro e w' ⟨rfl, k1, k2, k3⟩
        have e2 : cnt T2 = cnt m.T := by rw [← KA.1]; rfl
        rw [e2, hT2l]
        exact ⟨rfl, k1, k2, k3⟩
    have e : mdata m o D fb = ({ m with st := if wholeM (m.sized || fb) (if fb then (o : Int) + D.length else m.final) T2 then 2 else if fb then 1 else m.st, sized := m.sized || fb, final := if fb then (o : Int) + D.length else m.final, T := T2 }, 0) := by
      unfold mdata
      rw [if_neg (by omega), if_neg a4, if_neg a5, if_neg (by omega), hto, ← eT2]
    rw [e]
    rw [ev] at hK ⊢
    cases fb
    · simp only [Bool.or_false, Bool.false_eq_true, if_false]
      by_cases h1 : m.sized = true
      · have hf := hfin h1
        have hst : m.st = 1 := by have : m.st ≠ 0 := by (rw [h1] at hsz; simpa using hsz.symm)
                                  omega
        rw [h1, if_pos rfl] at hb hK
        refine (data_8fn g c win m.st m.read (cnt m.T) m.T.length (cnt T2) T2.length m.final m.told o av D.length dc _ w hb (by omega) (by omega) (by omega) (by omega) (by omega) (h5 h1) a8 hE.tab hE.t0 hE.hne hE.hgc (by omega) hK).mono ?_
        rintro e w' ⟨rfl, k1, k2, k3⟩
        refine ⟨rfl, ⟨_, ?_, k2, KA.2⟩, k3⟩
        dsimp only
        rw [h1, whole_cnt T2 m.final (by rw [hT2l]; have := h5 h1; omega), if_pos rfl]
        have e3 : (if decide ((cnt T2 : Int) = m.final) = true then 2 else m.st) = (if ((cnt T2 : Nat) : Int) = m.final ∧ m.st = 1 then 2 else m.st) := by
          simp only [decide_eq_true_eq, hst, and_true]
        rw [e3]; exact k1
      · have h1' : m.sized = false := by simpa using h1
        have hst : m.st = 0 := by rw [h1'] at hsz; simpa using hsz.symm
        rw [if_neg h1] at hb hK
        refine (data_8fe g c win m.st m.read (cnt m.T) m.T.length (cnt T2) T2.length (-1) m.told o av D.length dc _ w hb (by omega) (by omega) (by omega) (by omega) rfl a8 hE.tab hE.t0 hE.hne hE.hgc (by omega) hK).mono ?_
        rintro e w' ⟨rfl, k1, k2, k3⟩
        refine ⟨rfl, ⟨_, ?_, k2, KA.2⟩, k3⟩
        dsimp only
        rw [h1', whole_no]
        rw [if_neg (by rintro ⟨h, _⟩; omega)] at k1
        exact k1
    · simp only [Bool.or_true, if_true]
      have h6' := h6 rfl
      have hwh : wholeM true ((o : Int) + D.length) T2 = decide ((cnt T2 : Int) = (o : Int) + D.length) := whole_cnt T2 _ (by rw [hT2l]; omega)
      have hst2 : (if m.st = 0 then 1 else m.st) = 1 := by split <;> omega
      have fin2 : ∀ e w', (e = Ending.returned (.int .i64 0) ∧ rcB w' g c win (if ((cnt T2 : Nat) : Int) = ((o : Int) + D.length) ∧ (if m.st = 0 then 1 else m.st) = 1 then 2 else (if m.st = 0 then 1 else m.st)) m.read (cnt T2 : Nat) (T2.length : Nat) ((o : Int) + D.length) m.told ∧ rgB w' c (kfo m.read win o D (L, cnt m.T) D.length).1 ∧ Chg (K2 g c) w w') →
          e = Ending.returned (.int .i64 0) ∧ Rep w' g c win { m with st := if wholeM true ((o : Int) + D.length) T2 = true then 2 else 1, sized := true, final := (o : Int) + D.length, T := T2 } ∧ Chg (K2 g c) w w' := by
        rintro e w' ⟨rfl, k1, k2, k3⟩
        refine ⟨rfl, ⟨_, ?_, k2, KA.2⟩, k3⟩
        dsimp only
        rw [hwh, if_pos rfl]
        rw [hst2] at k1
        have e3 : (if decide ((cnt T2 : Int) = (o : Int) + D.length) = true then 2 else 1) = (if ((cnt T2 : Nat) : Int) = ((o : Int) + D.length) ∧ 1 = 1 then 2 else 1) := by
          simp only [decide_eq_true_eq, and_true]
        rw [e3]; exact k1
      by_cases h1 : m.sized = true
      · have hf := hfin h1
        rw [h1, if_pos rfl] at hb hK h6'
        exact (data_8tn g c win m.st m.read (cnt m.T) m.T.length (cnt T2) T2.length m.final m.told o av D.length dc _ w hb (by omega) (by omega) (by omega) (by omega) (by omega) (h5 h1) h6' a8 hE.tab hE.t0 hE.hne hE.hgc (by omega) hK).mono fin2
      · rw [if_neg h1] at hb hK h6'
        exact (data_8te g c win m.st m.read (cnt m.T) m.T.length (cnt T2) T2.length (-1) m.told o av D.length dc _ w hb (by omega) (by omega) (by omega) (by omega) rfl h6' a8 hE.tab hE.t0 hE.hne hE.hgc (by omega) hK).mono fin2
theorem resetR (g c win i : Nat) (m : MS) (n : Int) (w : World) (hE : Env w g c win i m) (hR : Rep w g c win m) :
    Calls Tryd.prog 23 #[.pointer (some ⟨g, 0, none⟩), .int .i64 n] w fun e w' => e = .returned (.int .i64 (mreset m n).2) ∧ Rep w' g c win (mreset m n).1 ∧ Chg (K2 g c) w w' := by
  obtain ⟨L, hb, hr, rr⟩ := id hR
  have I := hE.inv
  have hfin := I.fin
  have htt := I.toldT
  refine (resetI g c win m.st m.read (cnt m.T : Nat) (m.T.length : Nat) _ m.told n w I.st hE.tab hE.t0 (fun e => hE.hne (Or.inl e)) hb).mono ?_
  rintro e w' ⟨rfl, k1, k2⟩
  have key : mreset m n = ({ m with st := (rsV m.st (m.T.length : Nat) (if m.sized then m.final else -1) m.told n).2.1, sized := (mreset m n).1.sized, final := (mreset m n).1.final }, (rsV m.st (m.T.length : Nat) (if m.sized then m.final else -1) m.told n).1) ∧ (if (mreset m n).1.sized then (mreset m n).1.final else -1) = (rsV m.st (m.T.length : Nat) (if m.sized then m.final else -1) m.told n).2.2 := by
    unfold mreset rsV
    by_cases a1 : n < 0 ∨ 4611686018427387903 < n
    · rw [if_pos a1, if_pos a1]; exact ⟨rfl, rfl⟩
    rw [if_neg a1, if_neg a1]
    by_cases a2 : m.told < n
    · rw [if_pos a2, if_pos a2]; exact ⟨rfl, rfl⟩
    rw [if_neg a2, if_neg a2]
    by_cases a3 : (m.sized = true ∧ n ≠ m.final) ∨ n < m.T.length
    · have : ¬ (((m.T.length : Nat) : Int) ≤ n ∧ ((if m.sized then m.final else -1) = -1 ∨ n = (if m.sized then m.final else -1))) := by
        rintro ⟨h1, h2⟩
        rcases a3 with ⟨h3, h4⟩ | h3
        · rw [if_pos h3] at h2
          have := hfin h3
          rcases h2 with h5 | h5
          · omega
          · exact h4 h5
        · omega
      rw [if_pos a3, if_pos this]; exact ⟨rfl, rfl⟩
    · have : ¬ ¬ (((m.T.length : Nat) : Int) ≤ n ∧ ((if m.sized then m.final else -1) = -1 ∨ n = (if m.sized then m.final else -1))) := by
        intro h
        apply h
        refine ⟨by have : ¬ (n < m.T.length) := fun e => a3 (Or.inr e); omega, ?_⟩
        by_cases h3 : m.sized = true
        · rw [if_pos h3]; right
          have : ¬ (n ≠ m.final) := fun e => a3 (Or.inl ⟨h3, e⟩)
          omega
        · rw [if_neg h3]; exact Or.inl rfl
      rw [if_neg a3, if_neg this]; exact ⟨rfl, rfl⟩
  obtain ⟨k3, k4⟩ := key
  refine ⟨by rw [k3], ⟨L, ?_, hr.chg k2 hE.hgc, ?_⟩, k2.k2⟩
  · rw [k4]
    have e1 : (mreset m n).1.st = (rsV m.st (m.T.length : Nat) (if m.sized then m.final else -1) m.told n).2.1 := by rw [k3]
    have e2 : (mreset m n).1.read = m.read := by rw [k3]
    have e3 : (mreset m n).1.T = m.T := by rw [k3]
    have e4 : (mreset m n).1.told = m.told := by rw [k3]
    rw [e1, e2, e3, e4]; exact k1
  · have e2 : (mreset m n).1.read = m.read := by rw [k3]
    have e3 : (mreset m n).1.T = m.T := by rw [k3]
    rw [e2, e3]; exact rr
theorem readR (g c win i : Nat) (m : MS) (n : Int) (w : World) (hE : Env w g c win i m) (hR : Rep w g c win m) :
    Calls Tryd.prog 24 #[.pointer (some ⟨g, 0, none⟩), .int .i64 n] w fun e w' => ∃ r, e = .returned (.tuple #[r, .int .i64 (mread win m n).2.2]) ∧ w'.ownsRow w.heap.size 5 1 r (mread win m n).2.1.length ((mread win m n).2.1.map (Value.int .u8)) ∧ Rep w' g c win (mread win m n).1 ∧ Chg (K2 g c) w w' := by
  obtain ⟨L, hb, hr, rr⟩ := id hR
  have I := hE.inv
  have hrd := I.read
  have hct : cnt m.T ≤ m.T.length := List.countP_le_length
  have hcn := I.cnt
  have htd := I.told
  have htt := I.toldT
  have hi4 := hE.i4
  have hw2 := hE.w2
  have hst := I.st
  by_cases a1 : n < 1
  · have e : mread win m n = (m, [], 1) := by unfold mread; rw [if_pos a1]
    rw [e]
    refine (read_bad g n w a1).mono ?_
    rintro e w' ⟨rfl, hw⟩
    subst hw
    exact ⟨_, rfl, World.ownsRow_nil _ _ _ _, hR, chg_of_eq _⟩
  by_cases a2 : 4 ≤ m.st
  · have e : mread win m n = ({ m with st := 5 }, [], 23) := by unfold mread; rw [if_neg a1, if_pos a2]
    rw [e]
    have fin2 : ∀ e w', (e = Ending.returned (.tuple #[.slice none 0 0, .int .i64 23]) ∧ rcB w' g c win 5 m.read (cnt m.T : Nat) (m.T.length : Nat) (if m.sized then m.final else -1) m.told ∧ Chg (· = g) w w') →
        ∃ r, e = .returned (.tuple #[r, .int .i64 23]) ∧ w'.ownsRow w.heap.size 5 1 r 0 (([] : List Int).map (Value.int .u8)) ∧ Rep w' g c win { m with st := 5 } ∧ Chg (K2 g c) w w' := by
      rintro e w' ⟨rfl, k1, k2⟩
      exact ⟨_, rfl, World.ownsRow_nil _ _ _ _, ⟨L, k1, hr.chg k2 hE.hgc, rr⟩, k2.k2⟩
    by_cases a3 : m.st = 4
    · rw [a3] at hb
      exact (read_reset g c win m.read (cnt m.T : Nat) (m.T.length : Nat) _ m.told n w (by omega) hE.tab hE.t0 hb).mono fin2
    · have a4 : m.st = 5 := by omega
      rw [a4] at hb
      exact (read_cut g c win m.read (cnt m.T : Nat) (m.T.length : Nat) _ m.told n w (by omega) hE.tab hE.t0 hb).mono fin2
  refine (readI g c win m.st m.read (cnt m.T) m.T.length _ m.told n L w (by omega) (by omega) hE.tab hE.t0 hE.hne hb hr rr.1 hE.w1 hE.w2 (by omega) hE.hgc (by omega)).mono ?_
  rintro e w' ⟨k, r, rfl, rdy, ow, rg, rc', ch⟩
  have ek : k = rdk m.T m.read n.toNat := rdy_rdk rr (by omega) (by omega) rdy.1 rdy.2.1 rdy.2.2.1 rdy.2.2.2
  have hkT := rdk_len m.T m.read n.toNat hrd.2
  rw [← ek] at hkT
  have hall : ∀ i, i < k → (PL.g m.T (m.read + i)).1 = true := fun i hi => rdk_all m.T m.read n.toNat i (by rw [← ek]; exact hi)
  have eo := shO_out rr hE.w1 rdy.2.1 hall hkT
  rw [eo] at ow
  have em : mread win m n = ({ m with st := if m.st = 2 ∧ ((m.read + k : Nat) : Int) = m.final then 3 else m.st, read := m.read + k, told := if (if m.st = 2 ∧ ((m.read + k : Nat) : Int) = m.final then 3 else m.st) = 0 then cnV ((m.read + k : Nat) : Int) win m.told else m.told }, ((m.T.drop m.read).take k).map (·.2), 0) := by
    unfold mread; rw [if_neg a1, if_neg a2, ← ek]
  rw [em]
  have hlen : (((m.T.drop m.read).take k).map (·.2)).length = k := by simp; omega
  refine ⟨r, rfl, by dsimp only; rw [hlen]; exact ow, ⟨_, ?_, rg, rr.shift hE.w1 rdy.2.1 (by omega)⟩, ch⟩
  dsimp only
  have hsz := I.szd
  have e1 : (if ((m.read : Nat) : Int) + (k : Int) = (if m.sized then m.final else -1) ∧ m.st = 2 then 3 else m.st) = (if m.st = 2 ∧ ((m.read + k : Nat) : Int) = m.final then 3 else m.st) := by
    by_cases h2 : m.st = 2
    · have hs1 : m.sized = true := by rw [hsz, h2]; rfl
      rw [hs1, if_pos rfl]
      simp only [h2, and_true, true_and, Int.natCast_add]
    · simp only [h2, and_false, false_and, if_false]
  have e2 : (if m.st = 0 then cnV (((m.read : Nat) : Int) + (k : Int)) win m.told else m.told) = (if (if m.st = 2 ∧ ((m.read + k : Nat) : Int) = m.final then 3 else m.st) = 0 then cnV ((m.read + k : Nat) : Int) win m.told else m.told) := by
    by_cases h2 : m.st = 2 ∧ ((m.read + k : Nat) : Int) = m.final
    · rw [if_pos h2, if_neg (by omega), if_neg (by decide)]
    · rw [if_neg h2, Int.natCast_add]
  rw [e1, e2] at rc'
  rw [Int.natCast_add]
  rw [Int.natCast_add] at rc'
  exact rc'
end Go.Proofs.YthbggabgklnhgaaDoor

namespace Go.Proofs.YthbggabgklnhgaaDoor
open Go.RowKit
set_option linter.unusedVariables false

theorem Env.below {w w' : World} {g c win i : Nat} {m : MS} (h : Env w g c win i m) (hb : Below w.heap.size w w') : Env w' g c win i m :=
  ⟨h.tab.below hb h.t0, Nat.lt_of_lt_of_le h.t0 hb.size, h.hne, h.hgc, h.w1, h.w2, h.i4, h.inv⟩
theorem Rep.lt {w : World} {g c win : Nat} {m : MS} (h : Rep w g c win m) : g < w.heap.size ∧ c < w.heap.size := by
  obtain ⟨L, a, b, r⟩ := h
  exact ⟨(Array.getElem?_eq_some_iff.1 a).1, (Array.getElem?_eq_some_iff.1 b).1⟩
theorem Rep.c1 {w : World} {g c win : Nat} {m : MS} (h : Rep w g c win m) : w.cell? ⟨g, 1, none⟩ = some (.int .i64 (m.st : Int)) := by
  obtain ⟨L, a, b, r⟩ := h
  exact (bk_cell a 1).trans rfl
theorem Rep.c7 {w : World} {g c win : Nat} {m : MS} (h : Rep w g c win m) : w.cell? ⟨g, 7, none⟩ = some (.int .i64 m.told) := by
  obtain ⟨L, a, b, r⟩ := h
  exact (bk_cell a 7).trans rfl
/-- The three blocks of run: the operation, the answer's room, the observation. -/
structure RunAt (w wx : World) (ins obs : Array Value) : Prop where
  b0 : wx.heap[w.heap.size]? = some (.cells ins 34 (0, 0))
  b1 : wx.heap[w.heap.size + 1]? = some (.cells #[.int .i64 0, .int .i64 0, .int .i64 0, .slice none 0 0, .bool false] 39 (0, 0))
  b2 : wx.heap[w.heap.size + 2]? = some (.cells obs 39 (0, 0))
theorem RunAt.lt {w wx : World} {ins obs : Array Value} (h : RunAt w wx ins obs) : w.heap.size + 2 < wx.heap.size := (Array.getElem?_eq_some_iff.1 h.b2).1
theorem RunAt.chg {w wx w' : World} {ins obs : Array Value} {S : Nat → Prop} (h : RunAt w wx ins obs) (hc : Chg S wx w') (hs : ∀ k, w.heap.size ≤ k → ¬ S k) : RunAt w w' ins obs :=
  ⟨(hc.block _ (by have := h.lt; omega) (hs _ (by omega))).trans h.b0, (hc.block _ (by have := h.lt; omega) (hs _ (by omega))).trans h.b1, (hc.block _ h.lt (hs _ (by omega))).trans h.b2⟩
theorem RunAt.set {w wx : World} {ins obs : Array Value} (h : RunAt w wx ins obs) (i : Nat) (r : Value) : RunAt w (wx.setCell ⟨w.heap.size + 2, i, none⟩ r) ins (obs.setIfInBounds i r) :=
  ⟨(bk_other (by omega) i r).trans h.b0, (bk_other (by omega) i r).trans h.b1, bk_set h.b2 i r⟩
theorem run_new (w : World) (ins obs : Array Value) : RunAt w (((w.alloc (.cells ins 34)).alloc (.cells #[.int .i64 0, .int .i64 0, .int .i64 0, .slice none 0 0, .bool false] 39)).alloc (.cells obs 39)) ins obs := by
  obtain ⟨h0, h1, h2⟩ := bk_new3 w (.cells ins 34) (.cells #[.int .i64 0, .int .i64 0, .int .i64 0, .slice none 0 0, .bool false] 39) (.cells obs 39)
  exact ⟨h0, h1, h2⟩
theorem run_below (w : World) (o1 o2 o3 : Obj) : Below w.heap.size w (((w.alloc o1).alloc o2).alloc o3) := (((Below.refl _ _).alloc (Nat.le_refl _) _).alloc (by simp) _).alloc (by simp <;> omega) _
theorem Rep.setN {wx : World} {g c win : Nat} {m : MS} (h : Rep wx g c win m) (k i : Nat) (u : Value) (hk : k ≠ g ∧ k ≠ c) : Rep (wx.setCell ⟨k, i, none⟩ u) g c win m := by
  obtain ⟨L, a, b, r⟩ := h
  exact ⟨L, (bk_other (fun e => hk.1 e.symm) i u).trans a, (bk_other (fun e => hk.2 e.symm) i u).trans b, r⟩
theorem Rep.drewX {wx : World} {g c win : Nat} {m : MS} (h : Rep wx g c win m) : Rep wx.drew g c win m := h
theorem Chg.drewX {S : Nat → Prop} {w w' : World} (h : Chg S w w') : Chg S w w'.drew := ⟨h.os, h.tape, h.output, h.size, h.block⟩
theorem Chg.setN {S : Nat → Prop} {w w' : World} (h : Chg S w w') (k i : Nat) (u : Value) (hk : w.heap.size ≤ k) : Chg S w (w'.setCell ⟨k, i, none⟩ u) :=
  ⟨h.os, h.tape, h.output, by have := h.size; simpa [World.setCell] using this, fun j hj hs => (bk_other (k := j) (g := k) (by omega) i u).trans (h.block j hj hs)⟩
theorem heap_drewX {w : World} {k : Nat} {o : Option Obj} (h : w.heap[k]? = o) : w.drew.heap[k]? = o := h
theorem owns_drewX {w : World} {base e s n : Nat} {v : Value} {xs : List Value} (h : w.ownsRow base e s v n xs) : w.drew.ownsRow base e s v n xs := h
theorem infoRObs : (Tryd.prog.info? 39).map (·.size) = some 5 := by kernel_rfl
set_option maxRecDepth 20000 in
set_option maxHeartbeats 4000000 in
theorem run_reset (g c win i : Nat) (m : MS) (a b : Int) (u : Value) (fb : Bool) (w : World) (hE : Env w g c win i m) (hR : Rep w g c win m) :
    Calls Tryd.prog 14 #[.pointer (some ⟨g, 0, none⟩), .agg #[.int .i64 2, .int .i64 a, .int .i64 b, u, .bool fb]] w fun e w' => e = .returned (.agg #[.int .i64 (mreset m b).2, .int .i64 ((mreset m b).1.st : Int), .int .i64 (mreset m b).1.told, .slice none 0 0, .bool false]) ∧ Rep w' g c win (mreset m b).1 ∧ Chg (K2 g c) w w' := by
  have A0 := run_new w #[.int .i64 2, .int .i64 a, .int .i64 b, u, .bool fb] #[.int .i64 1, .int .i64 0, .int .i64 0, .slice none 0 0, .bool false]
  have B0 := run_below w (.cells #[.int .i64 2, .int .i64 a, .int .i64 b, u, .bool fb] 34) (.cells #[.int .i64 0, .int .i64 0, .int .i64 0, .slice none 0 0, .bool false] 39) (.cells #[.int .i64 1, .int .i64 0, .int .i64 0, .slice none 0 0, .bool false] 39)
  have C := resetR g c win i m b _ (hE.below B0) (hR.below B0)
  have hgl := hR.lt
  have hs : ∀ k, w.heap.size ≤ k → ¬ K2 g c k := fun k hk e => by rcases e with e | e <;> omega
  have H0 : Hid _ := And.intro A0 (And.intro B0 (And.intro C hs))
  clear A0 B0 C hE hR hs
  go_enter Tryd.func14, Tryd.ntmps14
  go_wp2_with fail
  go_at_call 23
  refine H0.out.2.2.1.mono ?_
  rintro e w1 ⟨rfl, r1, ch⟩
  have A1 := H0.out.1.chg ch H0.out.2.2.2
  have d1 := r1.c1
  have d7 := r1.c7
  have h1 : w.heap.size + 2 < w1.heap.size := A1.lt
  have z0 : w1.cell? ⟨w.heap.size + 2, 0, none⟩ = some (.int .i64 1) := by rw [bk_cell A1.b2]; rfl
  have f0 : w1.frozen? ⟨w.heap.size + 2, 0, none⟩ = false := bk_free A1.b2 0
  have y0 : w1.cell? ⟨w.heap.size + 1, 0, none⟩ = some (.int .i64 0) := by rw [bk_cell A1.b1]; rfl
  have g0 : w1.frozen? ⟨w.heap.size + 1, 0, none⟩ = false := bk_free A1.b1 0
  have z1 : w1.cell? ⟨w.heap.size + 2, 1, none⟩ = some (.int .i64 0) := by rw [bk_cell A1.b2]; rfl
  have f1 : w1.frozen? ⟨w.heap.size + 2, 1, none⟩ = false := bk_free A1.b2 1
  have y1 : w1.cell? ⟨w.heap.size + 1, 1, none⟩ = some (.int .i64 0) := by rw [bk_cell A1.b1]; rfl
  have g1 : w1.frozen? ⟨w.heap.size + 1, 1, none⟩ = false := bk_free A1.b1 1
  have z2 : w1.cell? ⟨w.heap.size + 2, 2, none⟩ = some (.int .i64 0) := by rw [bk_cell A1.b2]; rfl
  have f2 : w1.frozen? ⟨w.heap.size + 2, 2, none⟩ = false := bk_free A1.b2 2
  have y2 : w1.cell? ⟨w.heap.size + 1, 2, none⟩ = some (.int .i64 0) := by rw [bk_cell A1.b1]; rfl
  have g2 : w1.frozen? ⟨w.heap.size + 1, 2, none⟩ = false := bk_free A1.b1 2
  have z3 : w1.cell? ⟨w.heap.size + 2, 3, none⟩ = some (.slice none 0 0) := by rw [bk_cell A1.b2]; rfl
  have f3 : w1.frozen? ⟨w.heap.size + 2, 3, none⟩ = false := bk_free A1.b2 3
  have y3 : w1.cell? ⟨w.heap.size + 1, 3, none⟩ = some (.slice none 0 0) := by rw [bk_cell A1.b1]; rfl
  have g3 : w1.frozen? ⟨w.heap.size + 1, 3, none⟩ = false := bk_free A1.b1 3
  have z4 : w1.cell? ⟨w.heap.size + 2, 4, none⟩ = some (.bool false) := by rw [bk_cell A1.b2]; rfl
  have f4 : w1.frozen? ⟨w.heap.size + 2, 4, none⟩ = false := bk_free A1.b2 4
  have y4 : w1.cell? ⟨w.heap.size + 1, 4, none⟩ = some (.bool false) := by rw [bk_cell A1.b1]; rfl
  have g4 : w1.frozen? ⟨w.heap.size + 1, 4, none⟩ = false := bk_free A1.b1 4
  obtain ⟨cd, ecd⟩ : ∃ x : Int, x = (mreset m b).2 := ⟨_, rfl⟩
  obtain ⟨st, est⟩ : ∃ x : Int, x = ((mreset m b).1.st : Int) := ⟨_, rfl⟩
  obtain ⟨td, etd⟩ : ∃ x : Int, x = (mreset m b).1.told := ⟨_, rfl⟩
  rw [← est] at d1
  rw [← etd] at d7
  rw [← ecd]
  have H1 : Hid _ := And.intro A1 (And.intro r1 (And.intro ch (And.intro ecd (And.intro est etd))))
  clear A1 r1 ch ecd est etd
  have hg1 := hgl.1
  go_wp2_with fail
  go_region
  all_goals
    go_wp2_with fail
    refine bodyPost_ret (v := .agg #[.int .i64 cd, .int .i64 st, .int .i64 td, .slice none 0 0, .bool false]) ?_ rfl ?_
    · refine results_cell_row (t := 39) rfl _ _ (w.heap.size + 1) _ (fr := (0, 0)) _ rfl ?_ Tryd.underlying39 rfl infoRObs
      refine (heap_drewX (bk_set (bk_set (bk_set (bk_set (bk_set ((bk_other (by omega) 2 (.int .i64 td)).trans ((bk_other (by omega) 1 (.int .i64 st)).trans ((bk_other (by omega) 0 (.int .i64 cd)).trans (H1.out.1.b1)))) 0 (.int .i64 cd)) 1 (.int .i64 st)) 2 (.int .i64 td)) 3 (.slice none 0 0)) 4 (.bool false))).trans ?_
      rfl
    · refine ⟨by rw [← H1.out.2.2.2.1, ← H1.out.2.2.2.2.1, ← H1.out.2.2.2.2.2], (((((((((H1.out.2.1).setN (w.heap.size + 2) 0 (.int .i64 cd) (by omega)).setN (w.heap.size + 2) 1 (.int .i64 st) (by omega)).setN (w.heap.size + 2) 2 (.int .i64 td) (by omega)).setN (w.heap.size + 1) 0 (.int .i64 cd) (by omega)).setN (w.heap.size + 1) 1 (.int .i64 st) (by omega)).setN (w.heap.size + 1) 2 (.int .i64 td) (by omega)).setN (w.heap.size + 1) 3 (.slice none 0 0) (by omega)).setN (w.heap.size + 1) 4 (.bool false) (by omega)).drewX, ((((((((((Chg.of_below H0.out.2.1).trans H1.out.2.2.1).setN (w.heap.size + 2) 0 (.int .i64 cd) (by omega)).setN (w.heap.size + 2) 1 (.int .i64 st) (by omega)).setN (w.heap.size + 2) 2 (.int .i64 td) (by omega)).setN (w.heap.size + 1) 0 (.int .i64 cd) (by omega)).setN (w.heap.size + 1) 1 (.int .i64 st) (by omega)).setN (w.heap.size + 1) 2 (.int .i64 td) (by omega)).setN (w.heap.size + 1) 3 (.slice none 0 0) (by omega)).setN (w.heap.size + 1) 4 (.bool false) (by omega)).drewX⟩
set_option maxRecDepth 20000 in
set_option maxHeartbeats 4000000 in
theorem run_data (g c win i : Nat) (m : MS) (a b : Int) (u : Value) (fb : Bool) (w : World) (hE : Env w g c win i m) (hR : Rep w g c win m) (D : List Int) (hrow : Row w .u8 u D) (hl : D.length ≤ 140737488355328) (ho : a ≤ 9223372036854775807) (hap : 0 < D.length → ∀ b o l cp, u = .slice (some ⟨b, o, none⟩) l cp → b ≠ g ∧ b ≠ c) :
    Calls Tryd.prog 14 #[.pointer (some ⟨g, 0, none⟩), .agg #[.int .i64 1, .int .i64 a, .int .i64 b, u, .bool fb]] w fun e w' => e = .returned (.agg #[.int .i64 (mdata m a D fb).2, .int .i64 ((mdata m a D fb).1.st : Int), .int .i64 (mdata m a D fb).1.told, .slice none 0 0, .bool false]) ∧ Rep w' g c win (mdata m a D fb).1 ∧ Chg (K2 g c) w w' := by
  have A0 := run_new w #[.int .i64 1, .int .i64 a, .int .i64 b, u, .bool fb] #[.int .i64 1, .int .i64 0, .int .i64 0, .slice none 0 0, .bool false]
  have B0 := run_below w (.cells #[.int .i64 1, .int .i64 a, .int .i64 b, u, .bool fb] 34) (.cells #[.int .i64 0, .int .i64 0, .int .i64 0, .slice none 0 0, .bool false] 39) (.cells #[.int .i64 1, .int .i64 0, .int .i64 0, .slice none 0 0, .bool false] 39)
  have C := dataR g c win i m a u D fb _ (hE.below B0) (hR.below B0) (hrow.below B0) hl ho hap
  have hgl := hR.lt
  have hs : ∀ k, w.heap.size ≤ k → ¬ K2 g c k := fun k hk e => by rcases e with e | e <;> omega
  have H0 : Hid _ := And.intro A0 (And.intro B0 (And.intro C hs))
  clear A0 B0 C hE hR hs hrow hl ho hap
  go_enter Tryd.func14, Tryd.ntmps14
  go_wp2_with fail
  go_at_call 22
  refine H0.out.2.2.1.mono ?_
  rintro e w1 ⟨rfl, r1, ch⟩
  have A1 := H0.out.1.chg ch H0.out.2.2.2
  have d1 := r1.c1
  have d7 := r1.c7
  have h1 : w.heap.size + 2 < w1.heap.size := A1.lt
  have z0 : w1.cell? ⟨w.heap.size + 2, 0, none⟩ = some (.int .i64 1) := by rw [bk_cell A1.b2]; rfl
  have f0 : w1.frozen? ⟨w.heap.size + 2, 0, none⟩ = false := bk_free A1.b2 0
  have y0 : w1.cell? ⟨w.heap.size + 1, 0, none⟩ = some (.int .i64 0) := by rw [bk_cell A1.b1]; rfl
  have g0 : w1.frozen? ⟨w.heap.size + 1, 0, none⟩ = false := bk_free A1.b1 0
  have z1 : w1.cell? ⟨w.heap.size + 2, 1, none⟩ = some (.int .i64 0) := by rw [bk_cell A1.b2]; rfl
  have f1 : w1.frozen? ⟨w.heap.size + 2, 1, none⟩ = false := bk_free A1.b2 1
  have y1 : w1.cell? ⟨w.heap.size + 1, 1, none⟩ = some (.int .i64 0) := by rw [bk_cell A1.b1]; rfl
  have g1 : w1.frozen? ⟨w.heap.size + 1, 1, none⟩ = false := bk_free A1.b1 1
  have z2 : w1.cell? ⟨w.heap.size + 2, 2, none⟩ = some (.int .i64 0) := by rw [bk_cell A1.b2]; rfl
  have f2 : w1.frozen? ⟨w.heap.size + 2, 2, none⟩ = false := bk_free A1.b2 2
  have y2 : w1.cell? ⟨w.heap.size + 1, 2, none⟩ = some (.int .i64 0) := by rw [bk_cell A1.b1]; rfl
  have g2 : w1.frozen? ⟨w.heap.size + 1, 2, none⟩ = false := bk_free A1.b1 2
  have z3 : w1.cell? ⟨w.heap.size + 2, 3, none⟩ = some (.slice none 0 0) := by rw [bk_cell A1.b2]; rfl
  have f3 : w1.frozen? ⟨w.heap.size + 2, 3, none⟩ = false := bk_free A1.b2 3
  have y3 : w1.cell? ⟨w.heap.size + 1, 3, none⟩ = some (.slice none 0 0) := by rw [bk_cell A1.b1]; rfl
  have g3 : w1.frozen? ⟨w.heap.size + 1, 3, none⟩ = false := bk_free A1.b1 3
  have z4 : w1.cell? ⟨w.heap.size + 2, 4, none⟩ = some (.bool false) := by rw [bk_cell A1.b2]; rfl
  have f4 : w1.frozen? ⟨w.heap.size + 2, 4, none⟩ = false := bk_free A1.b2 4
  have y4 : w1.cell? ⟨w.heap.size + 1, 4, none⟩ = some (.bool false) := by rw [bk_cell A1.b1]; rfl
  have g4 : w1.frozen? ⟨w.heap.size + 1, 4, none⟩ = false := bk_free A1.b1 4
  obtain ⟨cd, ecd⟩ : ∃ x : Int, x = (mdata m a D fb).2 := ⟨_, rfl⟩
  obtain ⟨st, est⟩ : ∃ x : Int, x = ((mdata m a D fb).1.st : Int) := ⟨_, rfl⟩
  obtain ⟨td, etd⟩ : ∃ x : Int, x = (mdata m a D fb).1.told := ⟨_, rfl⟩
  rw [← est] at d1
  rw [← etd] at d7
  rw [← ecd]
  have H1 : Hid _ := And.intro A1 (And.intro r1 (And.intro ch (And.intro ecd (And.intro est etd))))
  clear A1 r1 ch ecd est etd
  have hg1 := hgl.1
  go_wp2_with fail
  go_region
  all_goals
    go_wp2_with fail
    refine bodyPost_ret (v := .agg #[.int .i64 cd, .int .i64 st, .int .i64 td, .slice none 0 0, .bool false]) ?_ rfl ?_
    · refine results_cell_row (t := 39) rfl _ _ (w.heap.size + 1) _ (fr := (0, 0)) _ rfl ?_ Tryd.underlying39 rfl infoRObs
      refine (heap_drewX (bk_set (bk_set (bk_set (bk_set (bk_set ((bk_other (by omega) 2 (.int .i64 td)).trans ((bk_other (by omega) 1 (.int .i64 st)).trans ((bk_other (by omega) 0 (.int .i64 cd)).trans (H1.out.1.b1)))) 0 (.int .i64 cd)) 1 (.int .i64 st)) 2 (.int .i64 td)) 3 (.slice none 0 0)) 4 (.bool false))).trans ?_
      rfl
    · refine ⟨by rw [← H1.out.2.2.2.1, ← H1.out.2.2.2.2.1, ← H1.out.2.2.2.2.2], (((((((((H1.out.2.1).setN (w.heap.size + 2) 0 (.int .i64 cd) (by omega)).setN (w.heap.size + 2) 1 (.int .i64 st) (by omega)).setN (w.heap.size + 2) 2 (.int .i64 td) (by omega)).setN (w.heap.size + 1) 0 (.int .i64 cd) (by omega)).setN (w.heap.size + 1) 1 (.int .i64 st) (by omega)).setN (w.heap.size + 1) 2 (.int .i64 td) (by omega)).setN (w.heap.size + 1) 3 (.slice none 0 0) (by omega)).setN (w.heap.size + 1) 4 (.bool false) (by omega)).drewX, ((((((((((Chg.of_below H0.out.2.1).trans H1.out.2.2.1).setN (w.heap.size + 2) 0 (.int .i64 cd) (by omega)).setN (w.heap.size + 2) 1 (.int .i64 st) (by omega)).setN (w.heap.size + 2) 2 (.int .i64 td) (by omega)).setN (w.heap.size + 1) 0 (.int .i64 cd) (by omega)).setN (w.heap.size + 1) 1 (.int .i64 st) (by omega)).setN (w.heap.size + 1) 2 (.int .i64 td) (by omega)).setN (w.heap.size + 1) 3 (.slice none 0 0) (by omega)).setN (w.heap.size + 1) 4 (.bool false) (by omega)).drewX⟩
set_option maxRecDepth 20000 in
set_option maxHeartbeats 4000000 in
theorem run_other (g c win i : Nat) (m : MS) (a b : Int) (u : Value) (fb : Bool) (w : World) (hE : Env w g c win i m) (hR : Rep w g c win m) (kd : Int) (n1 : (kd == 1) = false) (n2 : (kd == 2) = false) (n3 : (kd == 3) = false) :
    Calls Tryd.prog 14 #[.pointer (some ⟨g, 0, none⟩), .agg #[.int .i64 kd, .int .i64 a, .int .i64 b, u, .bool fb]] w fun e w' => e = .returned (.agg #[.int .i64 (m, (1 : Int)).2, .int .i64 ((m, (1 : Int)).1.st : Int), .int .i64 (m, (1 : Int)).1.told, .slice none 0 0, .bool false]) ∧ Rep w' g c win (m, (1 : Int)).1 ∧ Chg (K2 g c) w w' := by
  have A0 := run_new w #[.int .i64 kd, .int .i64 a, .int .i64 b, u, .bool fb] #[.int .i64 1, .int .i64 0, .int .i64 0, .slice none 0 0, .bool false]
  have B0 := run_below w (.cells #[.int .i64 kd, .int .i64 a, .int .i64 b, u, .bool fb] 34) (.cells #[.int .i64 0, .int .i64 0, .int .i64 0, .slice none 0 0, .bool false] 39) (.cells #[.int .i64 1, .int .i64 0, .int .i64 0, .slice none 0 0, .bool false] 39)
  have C := And.intro (hR.below B0) True.intro
  have hgl := hR.lt
  have hs : ∀ k, w.heap.size ≤ k → ¬ K2 g c k := fun k hk e => by rcases e with e | e <;> omega
  have H0 : Hid _ := And.intro A0 (And.intro B0 (And.intro C hs))
  clear A0 B0 C hE hR hs
  obtain ⟨w1, ew1⟩ : ∃ w1, w1 = (((w.alloc (.cells #[.int .i64 kd, .int .i64 a, .int .i64 b, u, .bool fb] 34)).alloc (.cells #[.int .i64 0, .int .i64 0, .int .i64 0, .slice none 0 0, .bool false] 39)).alloc (.cells #[.int .i64 1, .int .i64 0, .int .i64 0, .slice none 0 0, .bool false] 39)) := ⟨_, rfl⟩
  have A1 := H0.out.1
  have r1 := H0.out.2.2.1.1
  have ch : Chg (K2 g c) w1 w1 := chg_of_eq w1
  rw [← ew1] at A1 r1
  have d1 := r1.c1
  have d7 := r1.c7
  have h1 : w.heap.size + 2 < w1.heap.size := A1.lt
  have z0 : w1.cell? ⟨w.heap.size + 2, 0, none⟩ = some (.int .i64 1) := by rw [bk_cell A1.b2]; rfl
  have f0 : w1.frozen? ⟨w.heap.size + 2, 0, none⟩ = false := bk_free A1.b2 0
  have y0 : w1.cell? ⟨w.heap.size + 1, 0, none⟩ = some (.int .i64 0) := by rw [bk_cell A1.b1]; rfl
  have g0 : w1.frozen? ⟨w.heap.size + 1, 0, none⟩ = false := bk_free A1.b1 0
  have z1 : w1.cell? ⟨w.heap.size + 2, 1, none⟩ = some (.int .i64 0) := by rw [bk_cell A1.b2]; rfl
  have f1 : w1.frozen? ⟨w.heap.size + 2, 1, none⟩ = false := bk_free A1.b2 1
  have y1 : w1.cell? ⟨w.heap.size + 1, 1, none⟩ = some (.int .i64 0) := by rw [bk_cell A1.b1]; rfl
  have g1 : w1.frozen? ⟨w.heap.size + 1, 1, none⟩ = false := bk_free A1.b1 1
  have z2 : w1.cell? ⟨w.heap.size + 2, 2, none⟩ = some (.int .i64 0) := by rw [bk_cell A1.b2]; rfl
  have f2 : w1.frozen? ⟨w.heap.size + 2, 2, none⟩ = false := bk_free A1.b2 2
  have y2 : w1.cell? ⟨w.heap.size + 1, 2, none⟩ = some (.int .i64 0) := by rw [bk_cell A1.b1]; rfl
  have g2 : w1.frozen? ⟨w.heap.size + 1, 2, none⟩ = false := bk_free A1.b1 2
  have z3 : w1.cell? ⟨w.heap.size + 2, 3, none⟩ = some (.slice none 0 0) := by rw [bk_cell A1.b2]; rfl
  have f3 : w1.frozen? ⟨w.heap.size + 2, 3, none⟩ = false := bk_free A1.b2 3
  have y3 : w1.cell? ⟨w.heap.size + 1, 3, none⟩ = some (.slice none 0 0) := by rw [bk_cell A1.b1]; rfl
  have g3 : w1.frozen? ⟨w.heap.size + 1, 3, none⟩ = false := bk_free A1.b1 3
  have z4 : w1.cell? ⟨w.heap.size + 2, 4, none⟩ = some (.bool false) := by rw [bk_cell A1.b2]; rfl
  have f4 : w1.frozen? ⟨w.heap.size + 2, 4, none⟩ = false := bk_free A1.b2 4
  have y4 : w1.cell? ⟨w.heap.size + 1, 4, none⟩ = some (.bool false) := by rw [bk_cell A1.b1]; rfl
  have g4 : w1.frozen? ⟨w.heap.size + 1, 4, none⟩ = false := bk_free A1.b1 4
  obtain ⟨cd, ecd⟩ : ∃ x : Int, x = (m, (1 : Int)).2 := ⟨_, rfl⟩
  obtain ⟨st, est⟩ : ∃ x : Int, x = ((m, (1 : Int)).1.st : Int) := ⟨_, rfl⟩
  obtain ⟨td, etd⟩ : ∃ x : Int, x = (m, (1 : Int)).1.told := ⟨_, rfl⟩
  rw [← est] at d1
  rw [← etd] at d7
  have H1 : Hid _ := And.intro A1 (And.intro r1 (And.intro ch (And.intro ecd (And.intro est etd))))
  clear A1 r1 ch ecd est etd
  have hg1 := hgl.1
  go_enter Tryd.func14, Tryd.ntmps14
  go_upto_region 10 with fail
  have HB : Below w.heap.size w w1 := by rw [ew1]; exact H0.out.2.1
  rw [← ew1]
  clear ew1
  go_region
  all_goals
    go_wp2_with fail
    refine bodyPost_ret (v := .agg #[.int .i64 1, .int .i64 st, .int .i64 td, .slice none 0 0, .bool false]) ?_ rfl ?_
    · refine results_cell_row (t := 39) rfl _ _ (w.heap.size + 1) _ (fr := (0, 0)) _ rfl ?_ Tryd.underlying39 rfl infoRObs
      refine (heap_drewX (bk_set (bk_set (bk_set (bk_set (bk_set ((bk_other (by omega) 2 (.int .i64 td)).trans ((bk_other (by omega) 1 (.int .i64 st)).trans (H1.out.1.b1))) 0 (.int .i64 1)) 1 (.int .i64 st)) 2 (.int .i64 td)) 3 (.slice none 0 0)) 4 (.bool false))).trans ?_
      rfl
    · refine ⟨by rw [← H1.out.2.2.2.2.1, ← H1.out.2.2.2.2.2], ((((((((H1.out.2.1).setN (w.heap.size + 2) 1 (.int .i64 st) (by omega)).setN (w.heap.size + 2) 2 (.int .i64 td) (by omega)).setN (w.heap.size + 1) 0 (.int .i64 1) (by omega)).setN (w.heap.size + 1) 1 (.int .i64 st) (by omega)).setN (w.heap.size + 1) 2 (.int .i64 td) (by omega)).setN (w.heap.size + 1) 3 (.slice none 0 0) (by omega)).setN (w.heap.size + 1) 4 (.bool false) (by omega)).drewX, ((((((((Chg.of_below (HB)).setN (w.heap.size + 2) 1 (.int .i64 st) (by omega)).setN (w.heap.size + 2) 2 (.int .i64 td) (by omega)).setN (w.heap.size + 1) 0 (.int .i64 1) (by omega)).setN (w.heap.size + 1) 1 (.int .i64 st) (by omega)).setN (w.heap.size + 1) 2 (.int .i64 td) (by omega)).setN (w.heap.size + 1) 3 (.slice none 0 0) (by omega)).setN (w.heap.size + 1) 4 (.bool false) (by omega)).drewX⟩
end Go.Proofs.YthbggabgklnhgaaDoor

namespace Go.Proofs.YthbggabgklnhgaaDoor
open Go.RowKit
set_option linter.unusedVariables false

set_option maxRecDepth 20000 in
set_option maxHeartbeats 4000000 in
theorem run_read (g c win i : Nat) (m : MS) (a b : Int) (u : Value) (fb : Bool) (w : World) (hE : Env w g c win i m) (hR : Rep w g c win m) :
    Calls Tryd.prog 14 #[.pointer (some ⟨g, 0, none⟩), .agg #[.int .i64 3, .int .i64 a, .int .i64 b, u, .bool fb]] w fun e w' => ∃ r, e = .returned (.agg #[.int .i64 (mread win m b).2.2, .int .i64 ((mread win m b).1.st : Int), .int .i64 (mread win m b).1.told, r, .bool (decide ((mread win m b).2.2 = 0 ∧ (mread win m b).1.st = 3))]) ∧ w'.ownsRow w.heap.size 5 1 r (mread win m b).2.1.length ((mread win m b).2.1.map (Value.int .u8)) ∧ Rep w' g c win (mread win m b).1 ∧ Chg (K2 g c) w w' := by
  have A0 := run_new w #[.int .i64 3, .int .i64 a, .int .i64 b, u, .bool fb] #[.int .i64 1, .int .i64 0, .int .i64 0, .slice none 0 0, .bool false]
  have B0 := run_below w (.cells #[.int .i64 3, .int .i64 a, .int .i64 b, u, .bool fb] 34) (.cells #[.int .i64 0, .int .i64 0, .int .i64 0, .slice none 0 0, .bool false] 39) (.cells #[.int .i64 1, .int .i64 0, .int .i64 0, .slice none 0 0, .bool false] 39)
  have C := readR g c win i m b _ (hE.below B0) (hR.below B0)
  have hgl := hR.lt
  have hs : ∀ k, w.heap.size ≤ k → ¬ K2 g c k := fun k hk e => by rcases e with e | e <;> omega
  have l3 : w.heap.size + 3 ≤ (((w.alloc (.cells #[.int .i64 3, .int .i64 a, .int .i64 b, u, .bool fb] 34)).alloc (.cells #[.int .i64 0, .int .i64 0, .int .i64 0, .slice none 0 0, .bool false] 39)).alloc (.cells #[.int .i64 1, .int .i64 0, .int .i64 0, .slice none 0 0, .bool false] 39)).heap.size := by simp
  have H0 : Hid _ := And.intro A0 (And.intro B0 (And.intro C (And.intro hs l3)))
  clear A0 B0 C hE hR hs l3
  go_enter Tryd.func14, Tryd.ntmps14
  go_wp2_with fail
  go_at_call 24
  refine H0.out.2.2.1.mono ?_
  rintro e w1 ⟨r, rfl, ow, r1, ch⟩
  obtain ⟨ao, cp, er⟩ := (row_of_owns ow).form
  obtain ⟨ln, eln⟩ : ∃ ln, ln = (mread win m b).2.1.length := ⟨_, rfl⟩
  rw [← eln] at er
  have A1 := H0.out.1.chg ch H0.out.2.2.2.1
  have d1 := r1.c1
  have d7 := r1.c7
  have h1 : w.heap.size + 2 < w1.heap.size := A1.lt
  have z0 : w1.cell? ⟨w.heap.size + 2, 0, none⟩ = some (.int .i64 1) := by rw [bk_cell A1.b2]; rfl
  have f0 : w1.frozen? ⟨w.heap.size + 2, 0, none⟩ = false := bk_free A1.b2 0
  have y0 : w1.cell? ⟨w.heap.size + 1, 0, none⟩ = some (.int .i64 0) := by rw [bk_cell A1.b1]; rfl
  have g0 : w1.frozen? ⟨w.heap.size + 1, 0, none⟩ = false := bk_free A1.b1 0
  have z1 : w1.cell? ⟨w.heap.size + 2, 1, none⟩ = some (.int .i64 0) := by rw [bk_cell A1.b2]; rfl
  have f1 : w1.frozen? ⟨w.heap.size + 2, 1, none⟩ = false := bk_free A1.b2 1
  have y1 : w1.cell? ⟨w.heap.size + 1, 1, none⟩ = some (.int .i64 0) := by rw [bk_cell A1.b1]; rfl
  have g1 : w1.frozen? ⟨w.heap.size + 1, 1, none⟩ = false := bk_free A1.b1 1
  have z2 : w1.cell? ⟨w.heap.size + 2, 2, none⟩ = some (.int .i64 0) := by rw [bk_cell A1.b2]; rfl
  have f2 : w1.frozen? ⟨w.heap.size + 2, 2, none⟩ = false := bk_free A1.b2 2
  have y2 : w1.cell? ⟨w.heap.size + 1, 2, none⟩ = some (.int .i64 0) := by rw [bk_cell A1.b1]; rfl
  have g2 : w1.frozen? ⟨w.heap.size + 1, 2, none⟩ = false := bk_free A1.b1 2
  have z3 : w1.cell? ⟨w.heap.size + 2, 3, none⟩ = some (.slice none 0 0) := by rw [bk_cell A1.b2]; rfl
  have f3 : w1.frozen? ⟨w.heap.size + 2, 3, none⟩ = false := bk_free A1.b2 3
  have y3 : w1.cell? ⟨w.heap.size + 1, 3, none⟩ = some (.slice none 0 0) := by rw [bk_cell A1.b1]; rfl
  have g3 : w1.frozen? ⟨w.heap.size + 1, 3, none⟩ = false := bk_free A1.b1 3
  have z4 : w1.cell? ⟨w.heap.size + 2, 4, none⟩ = some (.bool false) := by rw [bk_cell A1.b2]; rfl
  have f4 : w1.frozen? ⟨w.heap.size + 2, 4, none⟩ = false := bk_free A1.b2 4
  have y4 : w1.cell? ⟨w.heap.size + 1, 4, none⟩ = some (.bool false) := by rw [bk_cell A1.b1]; rfl
  have g4 : w1.frozen? ⟨w.heap.size + 1, 4, none⟩ = false := bk_free A1.b1 4
  obtain ⟨cd, ecd⟩ : ∃ x : Int, x = (mread win m b).2.2 := ⟨_, rfl⟩
  obtain ⟨st, est⟩ : ∃ x : Int, x = ((mread win m b).1.st : Int) := ⟨_, rfl⟩
  obtain ⟨td, etd⟩ : ∃ x : Int, x = (mread win m b).1.told := ⟨_, rfl⟩
  obtain ⟨tb, etb⟩ : ∃ x : Bool, x = decide ((mread win m b).2.2 = 0 ∧ (mread win m b).1.st = 3) := ⟨_, rfl⟩
  rw [← est] at d1
  rw [← etd] at d7
  rw [← ecd]
  have ow2 := ow
  rw [er] at ow2
  have H1 : Hid _ := And.intro A1 (And.intro r1 (And.intro ch (And.intro ecd (And.intro est (And.intro etd (And.intro etb ow2))))))
  have key : (cd == 0 && st == 3) = tb := by
    rw [etb, ecd, est, Bool.eq_iff_iff]; simp; omega
  clear A1 r1 ch ecd est etd etb ow ow2 eln
  subst er
  have hg1 := hgl.1
  have fin2 : Hid (∀ W : World, W = W → True) := fun _ _ => trivial
  by_cases hc : cd = 0
  · have k0 : (cd == 0) = true := by simpa using hc
    have k3 : (st == 3) = tb := by rw [k0] at key; simpa using key
    have KB : Hid _ := And.intro hc key
    clear hc key
    subst k3
    go_wp2_with fail
    go_region
    all_goals
      go_wp2_with fail
      refine bodyPost_ret (v := .agg #[.int .i64 cd, .int .i64 st, .int .i64 td, .slice ao ln cp, .bool (st == 3)]) ?_ rfl ?_
      · refine results_cell_row (t := 39) rfl _ _ (w.heap.size + 1) _ (fr := (0, 0)) _ rfl ?_ Tryd.underlying39 rfl infoRObs
        refine (heap_drewX (bk_set (bk_set (bk_set (bk_set (bk_set ((bk_other (by omega) 2 (.int .i64 td)).trans ((bk_other (by omega) 1 (.int .i64 st)).trans ((bk_other (by omega) 4 (.bool (st == 3))).trans ((bk_other (by omega) 0 (.int .i64 cd)).trans ((bk_other (by omega) 3 (.slice ao ln cp)).trans (H1.out.1.b1)))))) 0 (.int .i64 cd)) 1 (.int .i64 st)) 2 (.int .i64 td)) 3 (.slice ao ln cp)) 4 (.bool (st == 3)))).trans ?_
        rfl
      · have m0 := owns_mono H1.out.2.2.2.2.2.2.2 (base' := w.heap.size + 3) H0.out.2.2.2.2
        refine ⟨_, by rw [← H1.out.2.2.2.2.2.2.1, ← H1.out.2.2.2.1, ← H1.out.2.2.2.2.1, ← H1.out.2.2.2.2.2.1], owns_mono (owns_drewX (owns_set8 (i := 4) (u := (.bool (st == 3))) (owns_set8 (i := 3) (u := (.slice ao ln cp)) (owns_set8 (i := 2) (u := (.int .i64 td)) (owns_set8 (i := 1) (u := (.int .i64 st)) (owns_set8 (i := 0) (u := (.int .i64 cd)) (owns_set8 (i := 2) (u := (.int .i64 td)) (owns_set8 (i := 1) (u := (.int .i64 st)) (owns_set8 (i := 4) (u := (.bool (st == 3))) (owns_set8 (i := 0) (u := (.int .i64 cd)) (owns_set8 (i := 3) (u := (.slice ao ln cp)) (m0) (g := w.heap.size + 2) (by omega)) (g := w.heap.size + 2) (by omega)) (g := w.heap.size + 2) (by omega)) (g := w.heap.size + 2) (by omega)) (g := w.heap.size + 2) (by omega)) (g := w.heap.size + 1) (by omega)) (g := w.heap.size + 1) (by omega)) (g := w.heap.size + 1) (by omega)) (g := w.heap.size + 1) (by omega)) (g := w.heap.size + 1) (by omega))) (by omega), (((((((((((H1.out.2.1).setN (w.heap.size + 2) 3 (.slice ao ln cp) (by omega)).setN (w.heap.size + 2) 0 (.int .i64 cd) (by omega)).setN (w.heap.size + 2) 4 (.bool (st == 3)) (by omega)).setN (w.heap.size + 2) 1 (.int .i64 st) (by omega)).setN (w.heap.size + 2) 2 (.int .i64 td) (by omega)).setN (w.heap.size + 1) 0 (.int .i64 cd) (by omega)).setN (w.heap.size + 1) 1 (.int .i64 st) (by omega)).setN (w.heap.size + 1) 2 (.int .i64 td) (by omega)).setN (w.heap.size + 1) 3 (.slice ao ln cp) (by omega)).setN (w.heap.size + 1) 4 (.bool (st == 3)) (by omega)).drewX, ((((((((((((Chg.of_below H0.out.2.1).trans H1.out.2.2.1).setN (w.heap.size + 2) 3 (.slice ao ln cp) (by omega)).setN (w.heap.size + 2) 0 (.int .i64 cd) (by omega)).setN (w.heap.size + 2) 4 (.bool (st == 3)) (by omega)).setN (w.heap.size + 2) 1 (.int .i64 st) (by omega)).setN (w.heap.size + 2) 2 (.int .i64 td) (by omega)).setN (w.heap.size + 1) 0 (.int .i64 cd) (by omega)).setN (w.heap.size + 1) 1 (.int .i64 st) (by omega)).setN (w.heap.size + 1) 2 (.int .i64 td) (by omega)).setN (w.heap.size + 1) 3 (.slice ao ln cp) (by omega)).setN (w.heap.size + 1) 4 (.bool (st == 3)) (by omega)).drewX⟩
  · have k0 : (cd == 0) = false := by simpa using hc
    have k3 : tb = false := by rw [k0] at key; simpa using key.symm
    have KB : Hid _ := And.intro hc key
    clear hc key
    subst k3
    go_wp2_with fail
    go_region
    all_goals
      go_wp2_with fail
      refine bodyPost_ret (v := .agg #[.int .i64 cd, .int .i64 st, .int .i64 td, .slice ao ln cp, .bool false]) ?_ rfl ?_
      · refine results_cell_row (t := 39) rfl _ _ (w.heap.size + 1) _ (fr := (0, 0)) _ rfl ?_ Tryd.underlying39 rfl infoRObs
        refine (heap_drewX (bk_set (bk_set (bk_set (bk_set (bk_set ((bk_other (by omega) 2 (.int .i64 td)).trans ((bk_other (by omega) 1 (.int .i64 st)).trans ((bk_other (by omega) 4 (.bool false)).trans ((bk_other (by omega) 0 (.int .i64 cd)).trans ((bk_other (by omega) 3 (.slice ao ln cp)).trans (H1.out.1.b1)))))) 0 (.int .i64 cd)) 1 (.int .i64 st)) 2 (.int .i64 td)) 3 (.slice ao ln cp)) 4 (.bool false))).trans ?_
        rfl
      · have m0 := owns_mono H1.out.2.2.2.2.2.2.2 (base' := w.heap.size + 3) H0.out.2.2.2.2
        refine ⟨_, by rw [← H1.out.2.2.2.2.2.2.1, ← H1.out.2.2.2.1, ← H1.out.2.2.2.2.1, ← H1.out.2.2.2.2.2.1], owns_mono (owns_drewX (owns_set8 (i := 4) (u := (.bool false)) (owns_set8 (i := 3) (u := (.slice ao ln cp)) (owns_set8 (i := 2) (u := (.int .i64 td)) (owns_set8 (i := 1) (u := (.int .i64 st)) (owns_set8 (i := 0) (u := (.int .i64 cd)) (owns_set8 (i := 2) (u := (.int .i64 td)) (owns_set8 (i := 1) (u := (.int .i64 st)) (owns_set8 (i := 4) (u := (.bool false)) (owns_set8 (i := 0) (u := (.int .i64 cd)) (owns_set8 (i := 3) (u := (.slice ao ln cp)) (m0) (g := w.heap.size + 2) (by omega)) (g := w.heap.size + 2) (by omega)) (g := w.heap.size + 2) (by omega)) (g := w.heap.size + 2) (by omega)) (g := w.heap.size + 2) (by omega)) (g := w.heap.size + 1) (by omega)) (g := w.heap.size + 1) (by omega)) (g := w.heap.size + 1) (by omega)) (g := w.heap.size + 1) (by omega)) (g := w.heap.size + 1) (by omega))) (by omega), (((((((((((H1.out.2.1).setN (w.heap.size + 2) 3 (.slice ao ln cp) (by omega)).setN (w.heap.size + 2) 0 (.int .i64 cd) (by omega)).setN (w.heap.size + 2) 4 (.bool false) (by omega)).setN (w.heap.size + 2) 1 (.int .i64 st) (by omega)).setN (w.heap.size + 2) 2 (.int .i64 td) (by omega)).setN (w.heap.size + 1) 0 (.int .i64 cd) (by omega)).setN (w.heap.size + 1) 1 (.int .i64 st) (by omega)).setN (w.heap.size + 1) 2 (.int .i64 td) (by omega)).setN (w.heap.size + 1) 3 (.slice ao ln cp) (by omega)).setN (w.heap.size + 1) 4 (.bool false) (by omega)).drewX, ((((((((((((Chg.of_below H0.out.2.1).trans H1.out.2.2.1).setN (w.heap.size + 2) 3 (.slice ao ln cp) (by omega)).setN (w.heap.size + 2) 0 (.int .i64 cd) (by omega)).setN (w.heap.size + 2) 4 (.bool false) (by omega)).setN (w.heap.size + 2) 1 (.int .i64 st) (by omega)).setN (w.heap.size + 2) 2 (.int .i64 td) (by omega)).setN (w.heap.size + 1) 0 (.int .i64 cd) (by omega)).setN (w.heap.size + 1) 1 (.int .i64 st) (by omega)).setN (w.heap.size + 1) 2 (.int .i64 td) (by omega)).setN (w.heap.size + 1) 3 (.slice ao ln cp) (by omega)).setN (w.heap.size + 1) 4 (.bool false) (by omega)).drewX⟩
end Go.Proofs.YthbggabgklnhgaaDoor

namespace Go.Proofs.YthbggabgklnhgaaDoor
open Go.RowKit
set_option linter.unusedVariables false

theorem runR (g c win i : Nat) (m : MS) (o : SRecvOp) (u : Value) (w : World) (hE : Env w g c win i m) (hR : Rep w g c win m) (hrow : Row w .u8 u o.f3) (hl : o.f3.length ≤ 140737488355328) (ho : o.f1 ≤ 9223372036854775807) (hap : 0 < o.f3.length → ∀ b of l cp, u = .slice (some ⟨b, of, none⟩) l cp → b ≠ g ∧ b ≠ c) :
    Calls Tryd.prog 14 #[.pointer (some ⟨g, 0, none⟩), .agg #[.int .i64 o.f0, .int .i64 o.f1, .int .i64 o.f2, u, .bool o.f4]] w fun e w' => ∃ r, e = .returned (.agg #[.int .i64 (mstep win m o).2.f0, .int .i64 (mstep win m o).2.f1, .int .i64 (mstep win m o).2.f2, r, .bool (mstep win m o).2.f4]) ∧
      w'.ownsRow w.heap.size 5 1 r (mstep win m o).2.f3.length ((mstep win m o).2.f3.map (Value.int .u8)) ∧ Rep w' g c win (mstep win m o).1 ∧ Chg (K2 g c) w w' := by
  obtain ⟨k, a, b, D, fb⟩ := o
  dsimp only at *
  unfold mstep
  dsimp only
  by_cases h1 : k = 1
  · subst h1
    rw [if_pos rfl]
    refine (run_data g c win i m a b u fb w hE hR D hrow hl ho hap).mono ?_
    rintro e w' ⟨rfl, r1, ch⟩
    exact ⟨_, rfl, World.ownsRow_nil _ _ _ _, r1, ch⟩
  rw [if_neg h1]
  by_cases h2 : k = 2
  · subst h2
    rw [if_pos rfl]
    refine (run_reset g c win i m a b u fb w hE hR).mono ?_
    rintro e w' ⟨rfl, r1, ch⟩
    exact ⟨_, rfl, World.ownsRow_nil _ _ _ _, r1, ch⟩
  rw [if_neg h2]
  by_cases h3 : k = 3
  · subst h3
    rw [if_pos rfl]
    exact run_read g c win i m a b u fb w hE hR
  · rw [if_neg h3]
    refine (run_other g c win i m a b u fb w hE hR k (by simpa using h1) (by simpa using h2) (by simpa using h3)).mono ?_
    rintro e w' ⟨rfl, r1, ch⟩
    exact ⟨_, rfl, World.ownsRow_nil _ _ _ _, r1, ch⟩
theorem Chg.ownsG {S : Nat → Prop} {w w' : World} {base e s n : Nat} {v : Value} {xs : List Value} (h : Chg S w w') (ho : w.ownsRow base e s v n xs) (hne : ∀ k, v.ownBlock = some k → ¬ S k) : w'.ownsRow base e s v n xs := by
  obtain ⟨hl, h2⟩ := ho
  refine ⟨hl, ?_⟩
  rcases h2 with h2 | ⟨g', cap, cur, rfl, hg, hh, r⟩
  · exact Or.inl h2
  · exact Or.inr ⟨g', cap, cur, rfl, hg, (h.block g' (Array.getElem?_eq_some_iff.1 hh).1 (hne g' rfl)).trans hh, r⟩
theorem Chg.toBelow {S : Nat → Prop} {w w' : World} {B : Nat} (h : Chg S w w') (hB : B ≤ w.heap.size) (hs : ∀ k, k < B → ¬ S k) : Below B w w' := ⟨h.os, h.tape, h.output, h.size, fun k hk => h.block k (by omega) (hs k hk)⟩
theorem Env.setE {w : World} {g c win i : Nat} {m : MS} (h : Env w g c win i m) (k o : Nat) (u : Value) (hk : 0 < k) : Env (w.setCell ⟨k, o, none⟩ u) g c win i m :=
  ⟨h.tab.chg (S := (· = k)) ((chg_of_eq w).set' k o u rfl) h.t0 (fun e => by have : 0 = k := e; omega), by have := h.t0; simpa [World.setCell] using this, h.hne, h.hgc, h.w1, h.w2, h.i4, h.inv⟩
/-- Behind k operations. -/
structure RunJ (g c win : Nat) (R : List SRecvOp) (w0 w wr : World) (n k : Nat) (zs : List Value) (U : Nat → Value) : Prop where
  zl : zs.length = n * 5
  ow : wr.ownsRow w.heap.size 39 5 (.slice (some ⟨w.heap.size, 0, none⟩) n n) n zs
  cs : ∀ j, j < k → ∀ f, f < 5 → zs[j * 5 + f]? = ((mstep win (mrun win R j).1 (R.getD j default)).2.c (U j))[f]?
  inn : ∀ j, j < k → wr.ownsRow (w.heap.size + 1) 5 1 (U j) (mstep win (mrun win R j).1 (R.getD j default)).2.d.length ((mstep win (mrun win R j).1 (R.getD j default)).2.d.map (Value.int .u8))
  ap : ∀ (i j : Nat), i < j → j < k → ∀ t, (U j).ownBlock = some t → some t ≠ (U i).ownBlock
  rep : Rep wr g c win (mrun win R k).1
  env : Env wr g c win k (mrun win R k).1
  bw : Below w0.heap.size w0 wr
def RunI (g c win : Nat) (R : List SRecvOp) (w0 w wr : World) (n k : Nat) : Prop := ∃ zs U, RunJ g c win R w0 w wr n k zs U
set_option maxRecDepth 20000 in
set_option maxHeartbeats 4000000 in
theorem runAllR (g c win : Nat) (v : Value) (R : List SRecvOp) (w0 w : World) (hbel : Below w0.heap.size w0 w) (hg0 : w0.heap.size ≤ g) (hc0 : w0.heap.size ≤ c) (row : BRow 5 SRecvOp.c SRecvOp.d w0 v R) (hn : R.length ≤ 400)
    (hd : ∀ j, j < R.length → (R.getD j default).d.length ≤ 140737488355328) (hof : ∀ j, j < R.length → (R.getD j default).f1 ≤ 9223372036854775807) (hE : Env w g c win 0 (mrun win R 0).1) (hR : Rep w g c win (mrun win R 0).1) (h0 : 0 < w0.heap.size) :
    Calls Tryd.prog 12 #[v, .func (.func 14) #[.pointer (some ⟨g, 0, none⟩)] #[]] w fun e w' => ∃ r, e = .returned r ∧ BOwns 39 5 SRecvObs.c SRecvObs.d w' w0.heap.size r (mrun win R R.length).2 ∧ Below w0.heap.size w0 w' := by
  obtain ⟨ao, cp, ev⟩ := row.form
  obtain ⟨i0, hi, hz0, hz1, hz2⟩ := info_parts infoRecvObs
  obtain ⟨n, en⟩ : ∃ n, n = R.length := ⟨_, rfl⟩
  have HH : Hid _ := And.intro row (And.intro hd (And.intro hof (And.intro hE (And.intro hR (And.intro hbel en)))))
  have hsB : ∀ k, k < w0.heap.size → ¬ K2 g c k := fun k hk e => by rcases e with e | e <;> omega
  have hglt := hR.lt
  rw [← en] at hn ⊢
  rw [← en] at ev
  subst ev
  clear row hd hof hE hR en
  go_enter Tryd.func12, Tryd.ntmps12
  go_wp2_with (at_make; refine wpList_make_full _ rfl _ _ 35 rfl w.heap.size 39 i0 (.agg #[.int .i64 0, .int .i64 0, .int .i64 0, .slice none 0 0, .bool false]) 5 Tryd.underlying35 hi hz0 hz1 .i64 .i64 (n : Int) (n : Int) n rfl rfl rfl rfl (by rw [hz2]; omega) (by unfold maxLen; omega) (Nat.le_refl _) ?_; intro w1 hown hg)
  have H1 : Hid _ := And.intro hown ((Below.refl w.heap.size w).grown hg (Nat.le_refl _) (by intro k hk; cases hk))
  clear hown hg
  go_loopg [13] n (fun q i wr => ∃ k : Nat, k ≤ n ∧ q = n - k ∧ i = .int .i64 (k : Int) ∧ RunI g c win R w0 w wr n k)
  case atStart =>
    have e0 := HH.out.2.2.2.2.2.2
    refine ⟨0, by omega, by omega, rfl, _, fun _ => .slice none 0 0, by have := H1.out.1.1; simpa using this, H1.out.1, fun j hj => by omega, fun j hj => by omega, fun i j _ hj => by omega, ?_, ?_, HH.out.2.2.2.2.2.1.trans (H1.out.2.mono HH.out.2.2.2.2.2.1.size)⟩
    · exact HH.out.2.2.2.2.1.below H1.out.2
    · exact HH.out.2.2.2.1.below H1.out.2
  case round =>
    obtain ⟨k, hk, hq, rfl, zs, U, H2⟩ := hrel
    by_cases hlt : k < n
    · obtain ⟨b, off, cap, ev, hbl, U0, hc, hr⟩ := HH.out.1.at' (by have := HH.out.2.2.2.2.2.2; omega)
      simp only [Value.slice.injEq] at ev
      obtain ⟨rfl, em2, rfl⟩ := ev
      clear em2
      have e0 := HH.out.2.2.2.2.2.2
      have hck := hc k (by omega)
      obtain ⟨uk, euk⟩ : ∃ u, u = U0 k := ⟨_, rfl⟩
      have hrk := (hr k (by omega)).below H2.bw
      rw [← euk] at hck hrk
      have hgl : w.heap.size < wr.heap.size := (H2.ow.lt w.heap.size rfl).2
      obtain ⟨o, eo⟩ : ∃ o, o = R.getD k default := ⟨_, rfl⟩
      have hdk := HH.out.2.1 k (by omega)
      have hfk := HH.out.2.2.1 k (by omega)
      rw [← eo] at hck hrk hdk hfk
      have c0 : wr.cell? ⟨b, off + k * 5, none⟩ = some (.int .i64 o.f0) := (H2.bw.cell (p := ⟨b, off + (k * 5 + 0), none⟩) hbl).trans (hck 0 (by omega))
      have c1 : wr.cell? ⟨b, off + k * 5 + 1, none⟩ = some (.int .i64 o.f1) := (H2.bw.cell (p := ⟨b, off + (k * 5 + 1), none⟩) hbl).trans (hck 1 (by omega))
      have c2 : wr.cell? ⟨b, off + k * 5 + 2, none⟩ = some (.int .i64 o.f2) := (H2.bw.cell (p := ⟨b, off + (k * 5 + 2), none⟩) hbl).trans (hck 2 (by omega))
      have c3 : wr.cell? ⟨b, off + k * 5 + 3, none⟩ = some (uk) := (H2.bw.cell (p := ⟨b, off + (k * 5 + 3), none⟩) hbl).trans (hck 3 (by omega))
      have c4 : wr.cell? ⟨b, off + k * 5 + 4, none⟩ = some (.bool o.f4) := (H2.bw.cell (p := ⟨b, off + (k * 5 + 4), none⟩) hbl).trans (hck 4 (by omega))
      have BA : Below wr.heap.size wr (wr.alloc (.cells #[.int .i64 o.f0, .int .i64 o.f1, .int .i64 o.f2, uk, .bool o.f4] 34)) := (Below.refl _ _).alloc (Nat.le_refl _) _
      have C := runR g c win k (mrun win R k).1 o uk _ (H2.env.below BA) (H2.rep.below BA) (hrk.below BA) hdk hfk (fun h0 b' of l cp' he => by
        have hlt0 := hr k (by omega)
        rw [← euk, ← eo] at hlt0
        obtain ⟨b2, o2, c2, e2, hb2, _⟩ := hlt0.at h0
        rw [e2] at he
        simp only [Value.slice.injEq, Option.some.injEq, Addr.mk.injEq] at he
        have := he.1.1
        omega)
      obtain ⟨ua, uc, eu⟩ := hrk.form
      obtain ⟨un, eun⟩ : ∃ un, un = o.d.length := ⟨_, rfl⟩
      rw [← eun] at eu
      have H4 : Hid _ := And.intro C (And.intro eo BA)
      clear C hck hrk hc hr euk eo eun e0
      obtain ⟨x0, x1, x2, x3, x4⟩ := o
      subst eu
      dsimp only at *
      have H2H : Hid _ := And.intro H2 True.intro
      clear H2
      go_wp2_with fail
      refine H4.out.1.mono ?_
      rintro e w2 ⟨r, rfl, or2, rp2, ch2⟩
      obtain ⟨S, eS⟩ : ∃ S, S = mstep win (mrun win R k).1 ⟨x0, x1, x2, x3, x4⟩ := ⟨_, rfl⟩
      rw [← eS] at or2 rp2
      rw [← eS]
      have hL : w.heap.size < wr.heap.size + 1 := by omega
      have chA : Chg (K2 g c) wr w2 := (Chg.of_below H4.out.2.2).trans ch2
      have ow2 := chA.ownsG H2H.out.1.ow (fun t ht => by simp [Value.ownBlock] at ht; subst ht; intro e; rcases e with e | e <;> omega)
      have h2z := ch2.size
      obtain ⟨aor, cpr, hrr⟩ := (row_of_owns or2).form
      obtain ⟨rn, ern⟩ : ∃ rn, rn = S.2.f3.length := ⟨_, rfl⟩
      rw [← ern] at hrr
      obtain ⟨q0, eq0⟩ : ∃ x, x = S.2.f0 := ⟨_, rfl⟩
      obtain ⟨q1, eq1⟩ : ∃ x, x = S.2.f1 := ⟨_, rfl⟩
      obtain ⟨q2, eq2⟩ : ∃ x, x = S.2.f2 := ⟨_, rfl⟩
      obtain ⟨q4, eq4⟩ : ∃ x, x = S.2.f4 := ⟨_, rfl⟩
      rw [← eq0, ← eq1, ← eq2, ← eq4]
      have d0 : k * 5 < n * 5 := by omega
      have s0 : w2.cell? ⟨w.heap.size, k * 5, none⟩ = zs[k * 5]? := ow2.cellAt (k * 5) d0
      obtain ⟨z0, hz0'⟩ : ∃ z, zs[k * 5]? = some z := ⟨zs[k * 5]'(by have := H2H.out.1.zl; omega), by simp [H2H.out.1.zl, d0]⟩
      rw [hz0'] at s0
      have f0 := ow2.frozenAt (k * 5)
      have d1 : k * 5 + 1 < n * 5 := by omega
      have s1 : w2.cell? ⟨w.heap.size, k * 5 + 1, none⟩ = zs[k * 5 + 1]? := ow2.cellAt (k * 5 + 1) d1
      obtain ⟨z1, hz1'⟩ : ∃ z, zs[k * 5 + 1]? = some z := ⟨zs[k * 5 + 1]'(by have := H2H.out.1.zl; omega), by simp [H2H.out.1.zl, d1]⟩
      rw [hz1'] at s1
      have f1 := ow2.frozenAt (k * 5 + 1)
      have d2 : k * 5 + 2 < n * 5 := by omega
      have s2 : w2.cell? ⟨w.heap.size, k * 5 + 2, none⟩ = zs[k * 5 + 2]? := ow2.cellAt (k * 5 + 2) d2
      obtain ⟨z2, hz2'⟩ : ∃ z, zs[k * 5 + 2]? = some z := ⟨zs[k * 5 + 2]'(by have := H2H.out.1.zl; omega), by simp [H2H.out.1.zl, d2]⟩
      rw [hz2'] at s2
      have f2 := ow2.frozenAt (k * 5 + 2)
      have d3 : k * 5 + 3 < n * 5 := by omega
      have s3 : w2.cell? ⟨w.heap.size, k * 5 + 3, none⟩ = zs[k * 5 + 3]? := ow2.cellAt (k * 5 + 3) d3
      obtain ⟨z3, hz3'⟩ : ∃ z, zs[k * 5 + 3]? = some z := ⟨zs[k * 5 + 3]'(by have := H2H.out.1.zl; omega), by simp [H2H.out.1.zl, d3]⟩
      rw [hz3'] at s3
      have f3 := ow2.frozenAt (k * 5 + 3)
      have d4 : k * 5 + 4 < n * 5 := by omega
      have s4 : w2.cell? ⟨w.heap.size, k * 5 + 4, none⟩ = zs[k * 5 + 4]? := ow2.cellAt (k * 5 + 4) d4
      obtain ⟨z4, hz4'⟩ : ∃ z, zs[k * 5 + 4]? = some z := ⟨zs[k * 5 + 4]'(by have := H2H.out.1.zl; omega), by simp [H2H.out.1.zl, d4]⟩
      rw [hz4'] at s4
      have f4 := ow2.frozenAt (k * 5 + 4)
      have H3 : Hid _ := And.intro ow2 (And.intro or2 (And.intro rp2 chA))
      have HQ : Hid _ := And.intro eq0 (And.intro eq1 (And.intro eq2 (And.intro eq4 (And.intro eS (And.intro hrr ern)))))
      clear ow2 or2 rp2 chA ch2 eq0 eq1 eq2 eq4 eS ern hz0' hz1' hz2' hz3' hz4'
      subst hrr
      go_wp2
      go_roundg (n - (k + 1))
      case measure => omega
      case rel =>
        obtain ⟨eq0, eq1, eq2, eq4, eS, -, ern⟩ := HQ.out
        obtain ⟨zl, ow, cs, inn, ap, rep, env, bw⟩ := H2H.out.1
        have eo := H4.out.2.1
        rw [eo] at eS
        obtain ⟨r, er⟩ : ∃ r : Value, r = .slice aor rn cpr := ⟨_, rfl⟩
        have e1 : (mrun win R (k + 1)).1 = S.1 := by rw [eS]; rfl
        have hor : w2.ownsRow (w.heap.size + 1) 5 1 r S.2.f3.length (S.2.f3.map (Value.int .u8)) := by rw [er]; exact owns_mono H3.out.2.1 (by simp; omega)
        have hlow : ∀ j, j < k → w2.ownsRow (w.heap.size + 1) 5 1 (U j) (mstep win (mrun win R j).1 (R.getD j default)).2.d.length ((mstep win (mrun win R j).1 (R.getD j default)).2.d.map (Value.int .u8)) := fun j hj => H3.out.2.2.2.ownsG (inn j hj) (fun t ht e => by have := ((inn j hj).lt t ht).1; rcases e with e | e <;> omega)
        rw [← er]
        refine ⟨k + 1, by omega, rfl, by go_num, (((((zs.set (k * 5) (.int .i64 q0)).set (k * 5 + 1) (.int .i64 q1)).set (k * 5 + 2) (.int .i64 q2)).set (k * 5 + 3) r).set (k * 5 + 4) (.bool q4)), fun j => if j = k then r else U j, ⟨by simp only [List.length_set]; exact zl, (((((H3.out.1.stored (k * 5) _).1.stored (k * 5 + 1) _).1.stored (k * 5 + 2) _).1.stored (k * 5 + 3) _).1.stored (k * 5 + 4) _).1, fun j hj f hf => ?_, fun j hj => ?_, fun i j hij hj t ht => ?_, ?_, ?_, ((((((H2H.out.1.bw.trans (H3.out.2.2.2.toBelow H2H.out.1.bw.size hsB)).setCell (p := ⟨w.heap.size, k * 5, none⟩) hbel.size _).setCell (p := ⟨w.heap.size, k * 5 + 1, none⟩) hbel.size _).setCell (p := ⟨w.heap.size, k * 5 + 2, none⟩) hbel.size _).setCell (p := ⟨w.heap.size, k * 5 + 3, none⟩) hbel.size _).setCell (p := ⟨w.heap.size, k * 5 + 4, none⟩) hbel.size _)⟩⟩
        · by_cases hjk : j = k
          · subst hjk
            rw [if_pos rfl, ← eS]
            unfold SRecvObs.c
            rw [← eq0, ← eq1, ← eq2, ← eq4]
            obtain rfl | rfl | rfl | rfl | rfl : f = 0 ∨ f = 1 ∨ f = 2 ∨ f = 3 ∨ f = 4 := by omega
            · rw [show j * 5 + 0 = j * 5 from rfl, List.getElem?_set_ne (by omega), List.getElem?_set_ne (by omega), List.getElem?_set_ne (by omega), List.getElem?_set_ne (by omega), List.getElem?_set_self (by first | omega | (simp only [List.length_set]; omega))]; rfl
            · rw [List.getElem?_set_ne (by omega), List.getElem?_set_ne (by omega), List.getElem?_set_ne (by omega), List.getElem?_set_self (by first | omega | (simp only [List.length_set]; omega))]; rfl
            · rw [List.getElem?_set_ne (by omega), List.getElem?_set_ne (by omega), List.getElem?_set_self (by first | omega | (simp only [List.length_set]; omega))]; rfl
            · rw [List.getElem?_set_ne (by omega), List.getElem?_set_self (by first | omega | (simp only [List.length_set]; omega))]; rfl
            · rw [List.getElem?_set_self (by first | omega | (simp only [List.length_set]; omega))]; rfl
          · have u := cs j (by omega) f hf
            rw [if_neg hjk, List.getElem?_set_ne (by omega), List.getElem?_set_ne (by omega), List.getElem?_set_ne (by omega), List.getElem?_set_ne (by omega), List.getElem?_set_ne (by omega)]; exact u
        · by_cases hjk : j = k
          · rw [if_pos hjk, hjk, ← eS]
            have hx := hor
            exact owns_set8 (i := k * 5 + 4) (u := (.bool q4)) (owns_set8 (i := k * 5 + 3) (u := r) (owns_set8 (i := k * 5 + 2) (u := (.int .i64 q2)) (owns_set8 (i := k * 5 + 1) (u := (.int .i64 q1)) (owns_set8 (i := k * 5) (u := (.int .i64 q0)) (hx) (g := w.heap.size) (by omega)) (g := w.heap.size) (by omega)) (g := w.heap.size) (by omega)) (g := w.heap.size) (by omega)) (g := w.heap.size) (by omega)
          · rw [if_neg hjk]
            have hx := hlow j (by omega)
            exact owns_set8 (i := k * 5 + 4) (u := (.bool q4)) (owns_set8 (i := k * 5 + 3) (u := r) (owns_set8 (i := k * 5 + 2) (u := (.int .i64 q2)) (owns_set8 (i := k * 5 + 1) (u := (.int .i64 q1)) (owns_set8 (i := k * 5) (u := (.int .i64 q0)) (hx) (g := w.heap.size) (by omega)) (g := w.heap.size) (by omega)) (g := w.heap.size) (by omega)) (g := w.heap.size) (by omega)) (g := w.heap.size) (by omega)
        · by_cases hjk : j = k
          · subst hjk
            rw [if_pos rfl] at ht
            rw [if_neg (by omega)]
            have hx := inn i hij
            intro e
            have a1 := (hx.lt t e.symm).2
            have a2 := (H3.out.2.1.lt t (by rw [← er]; exact ht)).1
            simp at a2
            omega
          · rw [if_neg hjk] at ht
            rw [if_neg (by omega)]
            exact ap i j hij (by omega) t ht
        · rw [e1]
          exact (((((H3.out.2.2.1).setN w.heap.size (k * 5) (.int .i64 q0) (by omega)).setN w.heap.size (k * 5 + 1) (.int .i64 q1) (by omega)).setN w.heap.size (k * 5 + 2) (.int .i64 q2) (by omega)).setN w.heap.size (k * 5 + 3) r (by omega)).setN w.heap.size (k * 5 + 4) (.bool q4) (by omega)
        · rw [e1]
          have hmi := mstep_inv env.inv env.w1 env.w2 env.i4 (R.getD k default)
          rw [← eS] at hmi
          have hcg : Chg (K2 g c) w w2 → True := fun _ => trivial
          have en := env.after H3.out.2.2.2 (by omega) hmi
          exact ((((en.setE w.heap.size (k * 5) (.int .i64 q0) (by omega)).setE w.heap.size (k * 5 + 1) (.int .i64 q1) (by omega)).setE w.heap.size (k * 5 + 2) (.int .i64 q2) (by omega)).setE w.heap.size (k * 5 + 3) r (by omega)).setE w.heap.size (k * 5 + 4) (.bool q4) (by omega)
    · obtain rfl : k = n := by omega
      have H2H : Hid _ := And.intro H2 True.intro
      clear H2
      go_wp2
      go_ret
      have e0 := HH.out.2.2.2.2.2.2
      obtain ⟨zl, ow, cs, inn, ap, rep, env, bw⟩ := H2H.out.1
      refine ⟨_, rfl, ⟨U, ⟨zs, by rw [zl_length, mrun_length]; exact owns_mono ow hbel.size, fun j hj f hf => ?_⟩, fun j hj => ?_, fun i j hij hj => ap i j hij (by rw [mrun_length] at hj; exact hj)⟩, bw⟩
      · rw [zl_length, mrun_length] at hj
        rw [zl_at _ _ _ _ (by rw [mrun_length]; exact hj), mrun_at win R j k hj]
        exact cs j hj f hf
      · rw [mrun_length] at hj
        rw [mrun_at win R j k hj]
        exact owns_mono (inn j hj) (by have := hbel.size; omega)
end Go.Proofs.YthbggabgklnhgaaDoor

namespace Go.Proofs.YthbggabgklnhgaaDoor
open Go.RowKit
set_option linter.unusedVariables false

set_option maxRecDepth 20000 in
set_option maxHeartbeats 1000000 in
theorem newR (win : Nat) (w : World) (hw : 1 ≤ win) (hw2 : win ≤ 16384) :
    Calls Tryd.prog 13 #[.int .i64 (win : Int)] w fun e w' => e = .returned (.pointer (some ⟨w.heap.size + 1, 0, none⟩)) ∧ Rep w' (w.heap.size + 1) w.heap.size win ⟨0, win, 0, false, 0, []⟩ ∧ Below w.heap.size w w' := by
  go_enter Tryd.func13, Tryd.ntmps13
  go_wp2_with (at_make; refine wpList_makeR rfl _ _ rfl win (win : Int) rfl rfl rfl (by omega) ?_)
  go_ret
  refine ⟨rfl, ⟨List.replicate win (false, 0), ?_, ?_, by simp, fun p hp hp2 => ?_⟩, ((Below.refl _ _).alloc (Nat.le_refl _) _).alloc (by simp) _⟩
  · exact (bk_new2 w _ _).2
  · exact (bk_new2 w _ _).1
  · rw [g_rep, g_out _ _ (by simp)]
    exact ⟨rfl, fun _ => rfl⟩
/-- What RecvRun answers. -/
def rrY (win : Int) (R : List SRecvOp) : List SRecvObs := if 400 < R.length ∨ win < 1 ∨ 16384 < win then [] else (mrun win.toNat R R.length).2
def rrC (win : Int) (R : List SRecvOp) : Int := if 400 < R.length then 4 else if win < 1 ∨ 16384 < win then 1 else 0
theorem BOwns.nilB {α : Type} [Inhabited α] (T : TypeId) (K : Nat) (c : α → Value → List Value) (d : α → List Int) (w : World) (base : Nat) : BOwns T K c d w base (.slice none 0 0) [] :=
  ⟨fun _ => .slice none 0 0, ⟨[], World.ownsRow_nil _ _ _ _, fun j hj => by simp [zl] at hj⟩, fun j hj => by simp at hj, fun i j _ hj => by simp at hj⟩
set_option maxRecDepth 20000 in
set_option maxHeartbeats 1000000 in
theorem implRR (win : Int) (v : Value) (R : List SRecvOp) (w : World) (ht : TabF w) (h0 : 0 < w.heap.size) (row : BRow 5 SRecvOp.c SRecvOp.d w v R) (hl : R.length ≤ 140737488355328)
    (hd : ∀ j, j < R.length → (R.getD j default).d.length ≤ 140737488355328) (hof : ∀ j, j < R.length → (R.getD j default).f1 ≤ 9223372036854775807) :
    Calls Tryd.prog 7 #[.int .i64 win, v] w fun e w' => ∃ r, e = .returned (.tuple #[r, .int .i64 (rrC win R)]) ∧ BOwns 39 5 SRecvObs.c SRecvObs.d w' w.heap.size r (rrY win R) ∧ Below w.heap.size w w' := by
  obtain ⟨ao, cp, ev⟩ := row.form
  by_cases a1 : 400 < R.length
  · have e1 : rrC win R = 4 := by unfold rrC; rw [if_pos a1]
    have e2 : rrY win R = [] := by unfold rrY; rw [if_pos (Or.inl a1)]
    rw [e1, e2, ev]
    have a1' : (400 : Int) < (R.length : Int) := by omega
    generalize R.length = n at *
    clear row hd hof
    go_enter Tryd.func7, Tryd.ntmps7
    go_wp2
    go_ret2
    exact ⟨_, rfl, BOwns.nilB _ _ _ _ _ _, Below.refl _ _⟩
  by_cases a2 : win < 1
  · have e1 : rrC win R = 1 := by unfold rrC; rw [if_neg a1, if_pos (Or.inl a2)]
    have e2 : rrY win R = [] := by unfold rrY; rw [if_pos (Or.inr (Or.inl a2))]
    rw [e1, e2, ev]
    have a1' : ¬ (400 : Int) < (R.length : Int) := by omega
    generalize R.length = n at *
    clear row hd hof
    go_enter Tryd.func7, Tryd.ntmps7
    go_wp2
    go_ret2
    exact ⟨_, rfl, BOwns.nilB _ _ _ _ _ _, Below.refl _ _⟩
  by_cases a3 : 16384 < win
  · have e1 : rrC win R = 1 := by unfold rrC; rw [if_neg a1, if_pos (Or.inr a3)]
    have e2 : rrY win R = [] := by unfold rrY; rw [if_pos (Or.inr (Or.inr a3))]
    rw [e1, e2, ev]
    have a1' : ¬ (400 : Int) < (R.length : Int) := by omega
    generalize R.length = n at *
    clear row hd hof
    go_enter Tryd.func7, Tryd.ntmps7
    go_wp2
    go_ret2
    exact ⟨_, rfl, BOwns.nilB _ _ _ _ _ _, Below.refl _ _⟩
  obtain ⟨k, rfl⟩ : ∃ k : Nat, win = (k : Int) := ⟨win.toNat, by omega⟩
  have e1 : rrC (k : Int) R = 0 := by unfold rrC; rw [if_neg a1, if_neg (by omega)]
  have e2 : rrY (k : Int) R = (mrun k R R.length).2 := by unfold rrY; rw [if_neg (by omega)]; rfl
  rw [e1, e2]
  have C := newR k w (by omega) (by omega)
  have C2 : ∀ w1 : World, Rep w1 (w.heap.size + 1) w.heap.size k ⟨0, k, 0, false, 0, []⟩ → Below w.heap.size w w1 → Calls Tryd.prog 12 #[v, .func (.func 14) #[.pointer (some ⟨w.heap.size + 1, 0, none⟩)] #[]] w1 fun e w' => ∃ r, e = .returned r ∧ BOwns 39 5 SRecvObs.c SRecvObs.d w' w.heap.size r (mrun k R R.length).2 ∧ Below w.heap.size w w' := fun w1 hr hb =>
    runAllR (w.heap.size + 1) w.heap.size k v R w w1 hb (by omega) (Nat.le_refl _) row (by omega) hd hof ⟨ht.below hb h0, Nat.lt_of_lt_of_le h0 hb.size, fun e => by rcases e with e | e <;> omega, by omega, by omega, by omega, by omega, mrun_inv (by omega) (by omega) R 0 (by omega)⟩ hr h0
  have a1' : ¬ (400 : Int) < (R.length : Int) := by omega
  have HH : Hid _ := And.intro C C2
  rw [ev] at HH ⊢
  generalize (mrun k R R.length).2 = Y at *
  generalize R.length = n at *
  clear row hd hof C C2 e1 e2 ev ht h0 hl
  go_enter Tryd.func7, Tryd.ntmps7
  go_wp2_with (first | (go_at_call 13; refine HH.out.1.mono ?_; rintro e w1 ⟨rfl, r1, b1⟩) | (go_at_call 12; refine (HH.out.2 _ r1 b1).mono ?_; rintro e w2 ⟨r, rfl, o2, b2⟩))
  go_ret2
  exact ⟨_, rfl, o2, b2⟩
end Go.Proofs.YthbggabgklnhgaaDoor
