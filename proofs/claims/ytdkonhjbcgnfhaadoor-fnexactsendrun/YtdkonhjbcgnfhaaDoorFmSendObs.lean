import Derived.Test.YtdkonhjbcgnfhaaDoorFbSendObs
namespace Go.Proofs.YtdkonhjbcgnfhaaDoor
open Go.RowKit
set_option linter.unusedVariables false

/-- What markSendObsS writes into one that begins at q. -/
def SSendObs.mq (q : Int) (e : SSendObs) : SSendObs := ⟨q, q + 1, q + 2, marks (q + 3) e.d.length, ((q + 3 + (e.d.length : Int)) % 3 == 0), ((q + 4 + (e.d.length : Int)) % 3 == 0), ((q + 5 + (e.d.length : Int)) % 3 == 0)⟩
def marksSendObs (q : Int) (L : List SSendObs) : List SSendObs := (List.range L.length).map fun j => (L.getD j default).mq (q + (sumB 6 SSendObs.d L j : Int))
theorem marksSendObs_length (q : Int) (L : List SSendObs) : (marksSendObs q L).length = L.length := by simp [marksSendObs]
theorem marksSendObs_at (q : Int) (L : List SSendObs) (j : Nat) (h : j < L.length) : (marksSendObs q L).getD j default = (L.getD j default).mq (q + (sumB 6 SSendObs.d L j : Int)) := by simp [marksSendObs, List.getD, h]
theorem markSendObsS_nil (q : Int) (ao : Option Addr) (cp : Nat) (w : World) :
    Calls Tryd.prog 11 #[.slice ao 0 cp, .int .i64 q] w fun e w' => e = .returned (.int .i64 q) ∧ w' = w := by
  go_enter Tryd.func11, Tryd.ntmps11
  go_wp2
  refine wp_loop_rounds 1 ?_
  rw [rounds_succ]
  go_wp2
  go_ret
  exact ⟨rfl, rfl⟩
set_option maxRecDepth 20000 in
set_option maxHeartbeats 4000000 in
theorem markSendObsS_core (q : Int) (L : List SSendObs) (U : Nat → Value) (n base g cap Bh : Nat) (zs0 : List Value) (w : World) (en : n = L.length) (hn : n ≤ 1048576) (hS : sumB 6 SSendObs.d L n ≤ 1099511627776) (hq0 : 0 ≤ q) (hq1 : q ≤ 1099511627776) (hg : base ≤ g) (hgB : g < Bh)
    (hUB : ∀ j, j < n → ∀ k, (U j).ownBlock = some k → k < Bh) (hown0 : w.ownsRow base 43 7 (.slice (some ⟨g, 0, none⟩) n cap) n zs0) (hl0 : zs0.length = n * 7) (hz0 : ∀ j, j < n → ∀ f, f < 7 → zs0[j * 7 + f]? = ((L.getD j default).c (U j))[f]?)
    (hi0 : ∀ j, j < n → w.ownsRow base 5 1 (U j) (L.getD j default).d.length ((L.getD j default).d.map (Value.int .u8))) (hap : ∀ (i j : Nat), i < j → j < n → ∀ t, (U j).ownBlock = some t → some t ≠ (U i).ownBlock) :
    Calls Tryd.prog 11 #[.slice (some ⟨g, 0, none⟩) n cap, .int .i64 q] w fun e w' => e = .returned (.int .i64 (q + (sumB 6 SSendObs.d L n : Int))) ∧
      (∃ zs : List Value, zs.length = n * 7 ∧ (∀ j : Nat, j < n → ∀ f, f < 7 → zs[j * 7 + f]? = (((L.getD j default).mq (q + (sumB 6 SSendObs.d L j : Int))).c (U j))[f]?) ∧ w'.ownsRow base 43 7 (.slice (some ⟨g, 0, none⟩) n cap) n zs) ∧
      (∀ j, j < n → w'.ownsRow base 5 1 (U j) (L.getD j default).d.length ((marks (q + (sumB 6 SSendObs.d L j : Int) + 3) (L.getD j default).d.length).map (Value.int .u8))) ∧ Below base w w' ∧ w'.heap.size = w.heap.size ∧ (∀ k, Bh ≤ k → k < w.heap.size → w'.heap[k]? = w.heap[k]?) := by
  have H0 : Hid _ := And.intro hown0 (And.intro hl0 (And.intro hz0 (And.intro hi0 (And.intro hap (And.intro hUB (And.intro en hS))))))
  clear hown0 hl0 hz0 hi0 hap hUB en hS
  go_enter Tryd.func11, Tryd.ntmps11
  go_wp2
  go_loopg [1, 5] n (fun z s i wr => ∃ k : Nat, k ≤ n ∧ z = n - k ∧ i = .int .i64 k ∧ s = .int .i64 (q + (sumB 6 SSendObs.d L k : Int)) ∧ ∃ zs : List Value, zs.length = n * 7 ∧ (∀ j : Nat, j < n → ∀ f, f < 7 → zs[j * 7 + f]? = (if j < k then ((L.getD j default).mq (q + (sumB 6 SSendObs.d L j : Int))).c (U j) else (L.getD j default).c (U j))[f]?) ∧
      wr.ownsRow base 43 7 (.slice (some ⟨g, 0, none⟩) n cap) n zs ∧ (∀ j, j < n → (j < k → wr.ownsRow base 5 1 (U j) (L.getD j default).d.length ((marks (q + (sumB 6 SSendObs.d L j : Int) + 3) (L.getD j default).d.length).map (Value.int .u8))) ∧ (k ≤ j → wr.ownsRow base 5 1 (U j) (L.getD j default).d.length ((L.getD j default).d.map (Value.int .u8)))) ∧ Below base w wr ∧ wr.heap.size = w.heap.size ∧ (∀ k, Bh ≤ k → k < w.heap.size → wr.heap[k]? = w.heap[k]?))
  case atStart => exact ⟨0, Nat.zero_le _, by omega, rfl, by simp [sumB], zs0, H0.out.2.1, fun j hj f hf => by rw [if_neg (by omega)]; exact H0.out.2.2.1 j hj f hf, H0.out.1, fun j hj => ⟨fun h => by omega, fun _ => H0.out.2.2.2.1 j hj⟩, Below.refl _ _, rfl, fun _ _ _ => rfl⟩
  case round =>
    obtain ⟨k, hk, hzz, rfl, rfl, zs, hl, hm, hown, hin, hb, hz, hh⟩ := hrel
    by_cases hlt : k < n
    · have hgl : g < wr.heap.size := (hown.lt g rfl).2
      obtain ⟨uk, euk⟩ : ∃ u, u = U k := ⟨_, rfl⟩
      have hcz := hm k hlt
      rw [if_neg (by omega), ← euk] at hcz
      have hzB : zs[k * 7 + 3]? = some uk := hcz 3 (by omega)
      have ink := (hin k hlt).2 (Nat.le_refl _)
      rw [← euk] at ink
      have d0 : k * 7 < n * 7 := by omega
      obtain ⟨z0, hz0'⟩ : ∃ z, zs[k * 7]? = some z := ⟨zs[k * 7]'(by omega), by simp [hl, d0]⟩
      have r0 := hown.cellAt (k * 7) d0
      rw [hz0'] at r0
      have p0 := hown.frozenAt (k * 7)
      have d1 : k * 7 + 1 < n * 7 := by omega
      obtain ⟨z1, hz1'⟩ : ∃ z, zs[k * 7 + 1]? = some z := ⟨zs[k * 7 + 1]'(by omega), by simp [hl, d1]⟩
      have r1 := hown.cellAt (k * 7 + 1) d1
      rw [hz1'] at r1
      have p1 := hown.frozenAt (k * 7 + 1)
      have d2 : k * 7 + 2 < n * 7 := by omega
      obtain ⟨z2, hz2'⟩ : ∃ z, zs[k * 7 + 2]? = some z := ⟨zs[k * 7 + 2]'(by omega), by simp [hl, d2]⟩
      have r2 := hown.cellAt (k * 7 + 2) d2
      rw [hz2'] at r2
      have p2 := hown.frozenAt (k * 7 + 2)
      have d3 : k * 7 + 3 < n * 7 := by omega
      have r3 := hown.cellAt (k * 7 + 3) d3
      rw [hzB] at r3
      have d4 : k * 7 + 4 < n * 7 := by omega
      obtain ⟨z4, hz4'⟩ : ∃ z, zs[k * 7 + 4]? = some z := ⟨zs[k * 7 + 4]'(by omega), by simp [hl, d4]⟩
      have r4 := hown.cellAt (k * 7 + 4) d4
      rw [hz4'] at r4
      have p4 := hown.frozenAt (k * 7 + 4)
      have d5 : k * 7 + 5 < n * 7 := by omega
      obtain ⟨z5, hz5'⟩ : ∃ z, zs[k * 7 + 5]? = some z := ⟨zs[k * 7 + 5]'(by omega), by simp [hl, d5]⟩
      have r5 := hown.cellAt (k * 7 + 5) d5
      rw [hz5'] at r5
      have p5 := hown.frozenAt (k * 7 + 5)
      have d6 : k * 7 + 6 < n * 7 := by omega
      obtain ⟨z6, hz6'⟩ : ∃ z, zs[k * 7 + 6]? = some z := ⟨zs[k * 7 + 6]'(by omega), by simp [hl, d6]⟩
      have r6 := hown.cellAt (k * 7 + 6) d6
      rw [hz6'] at r6
      have p6 := hown.frozenAt (k * 7 + 6)
      have hsk := sumB_mono 6 SSendObs.d L (show k + 1 ≤ n by omega)
      have hs1 : sumB 6 SSendObs.d L (k + 1) = sumB 6 SSendObs.d L k + (6 + (L.getD k default).d.length) := rfl
      have hS := H0.out.2.2.2.2.2.2.2
      obtain ⟨s, es⟩ : ∃ s, s = q + (sumB 6 SSendObs.d L k : Int) := ⟨_, rfl⟩
      obtain ⟨ln, eln⟩ : ∃ ln, ln = (L.getD k default).d.length := ⟨_, rfl⟩
      have hs0 : 0 ≤ s ∧ s + 3 + (ln : Int) ≤ 4398046511104 := by omega
      obtain ⟨s2, es2⟩ : ∃ s2, s2 = s + 3 + (ln : Int) := ⟨_, rfl⟩
      have hs2 : 0 ≤ s2 ∧ s2 ≤ 4398046511104 := by omega
      rw [← es]
      obtain ⟨tb4, etb4⟩ : ∃ tb : Bool, tb = ((s2) % 3 == 0) := ⟨_, rfl⟩
      have htb4 : ((s2).tmod 3 == 0) = tb4 := by rw [etb4, Int.tmod_eq_emod_of_nonneg (by omega)]
      have htc4 : ((s2) % 3 == 0) = tb4 := by rw [etb4]
      have HT4 : Hid _ := And.intro etb4 True.intro
      clear etb4
      obtain ⟨tb5, etb5⟩ : ∃ tb : Bool, tb = ((s2 + 1) % 3 == 0) := ⟨_, rfl⟩
      have htb5 : ((s2 + 1).tmod 3 == 0) = tb5 := by rw [etb5, Int.tmod_eq_emod_of_nonneg (by omega)]
      have htc5 : ((s2 + 1) % 3 == 0) = tb5 := by rw [etb5]
      have HT5 : Hid _ := And.intro etb5 True.intro
      clear etb5
      obtain ⟨tb6, etb6⟩ : ∃ tb : Bool, tb = ((s2 + 1 + 1) % 3 == 0) := ⟨_, rfl⟩
      have htb6 : ((s2 + 1 + 1).tmod 3 == 0) = tb6 := by rw [etb6, Int.tmod_eq_emod_of_nonneg (by omega)]
      have htc6 : ((s2 + 1 + 1) % 3 == 0) = tb6 := by rw [etb6]
      have HT6 : Hid _ := And.intro etb6 True.intro
      clear etb6
      have w0 : IntKind.i64.wrap (s + 1) = s + 1 := by rw [IntKind.wrap_i64]; omega
      have w1 : IntKind.i64.wrap (s + 1 + 1) = s + 1 + 1 := by rw [IntKind.wrap_i64]; omega
      have w2 : IntKind.i64.wrap (s + 1 + 1 + 1) = s + 1 + 1 + 1 := by rw [IntKind.wrap_i64]; omega
      have w4 : IntKind.i64.wrap (s2 + 1) = s2 + 1 := by rw [IntKind.wrap_i64]; omega
      have w5 : IntKind.i64.wrap (s2 + 1 + 1) = s2 + 1 + 1 := by rw [IntKind.wrap_i64]; omega
      have w6 : IntKind.i64.wrap (s2 + 1 + 1 + 1) = s2 + 1 + 1 + 1 := by rw [IntKind.wrap_i64]; omega
      obtain ⟨wA, ewA⟩ : ∃ wA : World, wA = (((wr.setCell ⟨g, k * 7, none⟩ (.int .i64 (s))).setCell ⟨g, k * 7 + 1, none⟩ (.int .i64 (s + 1))).setCell ⟨g, k * 7 + 2, none⟩ (.int .i64 (s + 1 + 1))) := ⟨_, rfl⟩
      obtain ⟨zA, ezA⟩ : ∃ zA : List Value, zA = (((zs.set (k * 7) (.int .i64 (s))).set (k * 7 + 1) (.int .i64 (s + 1))).set (k * 7 + 2) (.int .i64 (s + 1 + 1))) := ⟨_, rfl⟩
      have apg : ∀ j, j < n → ∀ t, (U j).ownBlock = some t → some t ≠ some g := fun j hj t ht e => by
        have h1 : ∃ xs, wr.ownsRow base 5 1 (U j) (L.getD j default).d.length xs := by
          by_cases hjk : j < k
          · exact ⟨_, (hin j hj).1 hjk⟩
          · exact ⟨_, (hin j hj).2 (by omega)⟩
        obtain ⟨xs, h1⟩ := h1
        exact types_apartB (by decide) hown h1 g rfl (by rw [← e, ht])
      have ownA : wA.ownsRow base 43 7 (.slice (some ⟨g, 0, none⟩) n cap) n zA := by rw [ewA, ezA]; exact (((hown.stored (k * 7) (.int .i64 (s))).1.stored (k * 7 + 1) (.int .i64 (s + 1))).1.stored (k * 7 + 2) (.int .i64 (s + 1 + 1))).1
      have innA : ∀ {xs : List Value} {ln : Nat} (j : Nat) (hj : j < n), wr.ownsRow base 5 1 (U j) ln xs → wA.ownsRow base 5 1 (U j) ln xs := fun {xs ln} j hj t => by rw [ewA]; exact (Only.setCell (w := _) ⟨g, k * 7 + 2, none⟩ (.int .i64 (s + 1 + 1))).owns ((Only.setCell (w := _) ⟨g, k * 7 + 1, none⟩ (.int .i64 (s + 1))).owns ((Only.setCell (w := _) ⟨g, k * 7, none⟩ (.int .i64 (s))).owns (t) (apg j hj)) (apg j hj)) (apg j hj)
      have belA : Below base w wA := by rw [ewA]; exact (((hb.setCell (p := ⟨g, k * 7, none⟩) hg (.int .i64 (s))).setCell (p := ⟨g, k * 7 + 1, none⟩) hg (.int .i64 (s + 1))).setCell (p := ⟨g, k * 7 + 2, none⟩) hg (.int .i64 (s + 1 + 1)))
      have szA : wA.heap.size = w.heap.size := by rw [ewA, ← hz]; simp [World.setCell]
      have hhA : ∀ t, Bh ≤ t → t < w.heap.size → wA.heap[t]? = w.heap[t]? := fun t ht ht2 => by rw [ewA]; exact (bk_other (show t ≠ g by omega) (k * 7 + 2) (.int .i64 (s + 1 + 1))).trans ((bk_other (show t ≠ g by omega) (k * 7 + 1) (.int .i64 (s + 1))).trans ((bk_other (show t ≠ g by omega) (k * 7) (.int .i64 (s))).trans (hh t ht ht2)))
      have C := markBytes (s + 1 + 1 + 1) ln base uk (L.getD k default).d wA (by omega) (by omega) (by omega) (by rw [eln, euk]; exact innA k hlt (by rw [← euk]; exact ink))
      have eS2 : (s + 1 + 1 + 1) + (ln : Int) = s2 := by rw [es2]; omega
      rw [eS2] at C
      have H2 : Hid _ := And.intro es (And.intro es2 (And.intro eln (And.intro hl (And.intro hm (And.intro ownA (And.intro (fun {xs} {ln} => @innA xs ln) (And.intro belA (And.intro szA (And.intro hhA (And.intro hin (And.intro euk (And.intro ezA (And.intro C (And.intro ink (And.intro hs1 apg)))))))))))))))
      clear es es2 eln hl hm hown ownA innA belA szA hhA hin euk C hb hz hh hcz ink hs1 hsk hS eS2 apg
      have ewA' : Hid _ := And.intro ewA True.intro
      subst ewA
      go_wp2_with fail
      go_at_call 21
      refine (H2.out.2.2.2.2.2.2.2.2.2.2.2.2.2.1).mono ?_
      rintro e w2 ⟨rfl, o2, b2, z2, n2⟩
      rw [H2.out.2.2.2.2.2.2.2.2.2.2.2.1] at n2
      have own2 := n2.owns H2.out.2.2.2.2.2.1 (fun t ht => types_apartB (by decide) H2.out.2.2.2.2.2.1 (H2.out.2.2.2.2.2.2.1 k hlt (by have e := H2.out.2.2.2.2.2.2.2.2.2.2.2.1; rw [← e]; exact H2.out.2.2.2.2.2.2.2.2.2.2.2.2.2.2.1)) t ht)

      have t4 : w2.cell? ⟨g, k * 7 + 4, none⟩ = some z4 := by
        have t := own2.cellAt (k * 7 + 4) d4
        rw [t, H2.out.2.2.2.2.2.2.2.2.2.2.2.2.1, List.getElem?_set_ne (by omega), List.getElem?_set_ne (by omega), List.getElem?_set_ne (by omega)]; exact hz4'
      have q4 := own2.frozenAt (k * 7 + 4)
      have t5 : w2.cell? ⟨g, k * 7 + 5, none⟩ = some z5 := by
        have t := own2.cellAt (k * 7 + 5) d5
        rw [t, H2.out.2.2.2.2.2.2.2.2.2.2.2.2.1, List.getElem?_set_ne (by omega), List.getElem?_set_ne (by omega), List.getElem?_set_ne (by omega)]; exact hz5'
      have q5 := own2.frozenAt (k * 7 + 5)
      have t6 : w2.cell? ⟨g, k * 7 + 6, none⟩ = some z6 := by
        have t := own2.cellAt (k * 7 + 6) d6
        rw [t, H2.out.2.2.2.2.2.2.2.2.2.2.2.2.1, List.getElem?_set_ne (by omega), List.getElem?_set_ne (by omega), List.getElem?_set_ne (by omega)]; exact hz6'
      have q6 := own2.frozenAt (k * 7 + 6)
      have H3 : Hid _ := And.intro own2 (And.intro b2 (And.intro z2 (And.intro n2 o2)))
      clear own2 b2 z2 n2 o2 hz0' hz1' hz2' hz4' hz5' hz6'
      go_wp2
      go_roundg (n - (k + 1))
      case measure => omega
      case rel =>
        obtain ⟨es, es2, eln, hl, hm, ownA, innA, belA, szA, hhA, hin, euk, ezA, C, ink, hs1, apg⟩ := H2.out
        obtain ⟨own2, b2, z2, n2, o2⟩ := H3.out
        refine ⟨k + 1, by omega, rfl, by go_num, by rw [hs1, ← eln]; congr 1; omega, (((zA.set (k * 7 + 4) (.bool tb4)).set (k * 7 + 5) (.bool tb5)).set (k * 7 + 6) (.bool tb6)), by rw [ezA]; simp only [List.length_set]; exact hl, fun j hj f hf => ?_, (((own2.stored (k * 7 + 4) _).1.stored (k * 7 + 5) _).1.stored (k * 7 + 6) _).1, fun j hj => ?_, ((((H2.out.2.2.2.2.2.2.2.1.trans H3.out.2.1).setCell (p := ⟨g, k * 7 + 4, none⟩) hg _).setCell (p := ⟨g, k * 7 + 5, none⟩) hg _).setCell (p := ⟨g, k * 7 + 6, none⟩) hg _), by rw [← szA, ← z2]; simp [World.setCell], fun t ht ht2 => ?_⟩
        · rw [ezA]
          by_cases hjk : j = k
          · subst hjk
            have hc := hm j hj
            rw [if_neg (by omega)] at hc
            rw [if_pos (by omega), ← es]
            unfold SSendObs.mq SSendObs.c
            obtain rfl | rfl | rfl | rfl | rfl | rfl | rfl : f = 0 ∨ f = 1 ∨ f = 2 ∨ f = 3 ∨ f = 4 ∨ f = 5 ∨ f = 6 := by omega
            · rw [show j * 7 + 0 = j * 7 from rfl, List.getElem?_set_ne (by omega), List.getElem?_set_ne (by omega), List.getElem?_set_ne (by omega), List.getElem?_set_ne (by omega), List.getElem?_set_ne (by omega), List.getElem?_set_self (by first | omega | (simp only [List.length_set]; omega))]; rfl
            · rw [List.getElem?_set_ne (by omega), List.getElem?_set_ne (by omega), List.getElem?_set_ne (by omega), List.getElem?_set_ne (by omega), List.getElem?_set_self (by first | omega | (simp only [List.length_set]; omega))]; first | rfl | exact congrArg some (congrArg (Value.int .i64) (show s + 1 = s + 1 by omega))
            · rw [List.getElem?_set_ne (by omega), List.getElem?_set_ne (by omega), List.getElem?_set_ne (by omega), List.getElem?_set_self (by first | omega | (simp only [List.length_set]; omega))]; first | rfl | exact congrArg some (congrArg (Value.int .i64) (show s + 1 + 1 = s + 2 by omega))
            · rw [List.getElem?_set_ne (by omega), List.getElem?_set_ne (by omega), List.getElem?_set_ne (by omega), List.getElem?_set_ne (by omega), List.getElem?_set_ne (by omega), List.getElem?_set_ne (by omega)]; exact hc 3 (by omega)
            · rw [List.getElem?_set_ne (by omega), List.getElem?_set_ne (by omega), List.getElem?_set_self (by first | omega | (simp only [List.length_set]; omega)), HT4.out.1, es2, eln]; exact congrArg some (congrArg Value.bool (congrArg (fun z : Int => z % 3 == 0) (by omega)))
            · rw [List.getElem?_set_ne (by omega), List.getElem?_set_self (by first | omega | (simp only [List.length_set]; omega)), HT5.out.1, es2, eln]; exact congrArg some (congrArg Value.bool (congrArg (fun z : Int => z % 3 == 0) (by omega)))
            · rw [List.getElem?_set_self (by first | omega | (simp only [List.length_set]; omega)), HT6.out.1, es2, eln]; exact congrArg some (congrArg Value.bool (congrArg (fun z : Int => z % 3 == 0) (by omega)))
          · rw [List.getElem?_set_ne (by omega), List.getElem?_set_ne (by omega), List.getElem?_set_ne (by omega), List.getElem?_set_ne (by omega), List.getElem?_set_ne (by omega), List.getElem?_set_ne (by omega)]
            have hc := hm j hj f hf
            by_cases hj2 : j < k
            · rw [if_pos hj2] at hc; rw [if_pos (by omega)]; exact hc
            · rw [if_neg hj2] at hc; rw [if_neg (by omega)]; exact hc
        · refine ⟨fun hjk => ?_, fun hkj => ?_⟩
          · by_cases e : j = k
            · have t := o2
              rw [euk, eln, es] at t
              try rw [show q + (sumB 6 SSendObs.d L k : Int) + 1 + 1 + 1 = q + (sumB 6 SSendObs.d L k : Int) + 3 by omega] at t
              rw [e]
              exact (Only.setCell (w := _) ⟨g, k * 7 + 6, none⟩ (.bool tb6)).owns ((Only.setCell (w := _) ⟨g, k * 7 + 5, none⟩ (.bool tb5)).owns ((Only.setCell (w := _) ⟨g, k * 7 + 4, none⟩ (.bool tb4)).owns (t) (H2.out.2.2.2.2.2.2.2.2.2.2.2.2.2.2.2.2 k hlt)) (H2.out.2.2.2.2.2.2.2.2.2.2.2.2.2.2.2.2 k hlt)) (H2.out.2.2.2.2.2.2.2.2.2.2.2.2.2.2.2.2 k hlt)
            · have t := n2.owns (innA j hj ((hin j hj).1 (by omega))) (fun t ht e3 => H0.out.2.2.2.2.1 j k (by omega) hlt t e3.symm ht.symm)
              exact (Only.setCell (w := _) ⟨g, k * 7 + 6, none⟩ (.bool tb6)).owns ((Only.setCell (w := _) ⟨g, k * 7 + 5, none⟩ (.bool tb5)).owns ((Only.setCell (w := _) ⟨g, k * 7 + 4, none⟩ (.bool tb4)).owns (t) (H2.out.2.2.2.2.2.2.2.2.2.2.2.2.2.2.2.2 j hj)) (H2.out.2.2.2.2.2.2.2.2.2.2.2.2.2.2.2.2 j hj)) (H2.out.2.2.2.2.2.2.2.2.2.2.2.2.2.2.2.2 j hj)
          · have t := n2.owns (innA j hj ((hin j hj).2 (by omega))) (fun t ht => H0.out.2.2.2.2.1 k j (by omega) hj t ht)
            exact (Only.setCell (w := _) ⟨g, k * 7 + 6, none⟩ (.bool tb6)).owns ((Only.setCell (w := _) ⟨g, k * 7 + 5, none⟩ (.bool tb5)).owns ((Only.setCell (w := _) ⟨g, k * 7 + 4, none⟩ (.bool tb4)).owns (t) (H2.out.2.2.2.2.2.2.2.2.2.2.2.2.2.2.2.2 j hj)) (H2.out.2.2.2.2.2.2.2.2.2.2.2.2.2.2.2.2 j hj)) (H2.out.2.2.2.2.2.2.2.2.2.2.2.2.2.2.2.2 j hj)
        · exact (bk_other (show t ≠ g by omega) (k * 7 + 6) (.bool tb6)).trans ((bk_other (show t ≠ g by omega) (k * 7 + 5) (.bool tb5)).trans ((bk_other (show t ≠ g by omega) (k * 7 + 4) (.bool tb4)).trans ((n2.block t (fun e => by have := H0.out.2.2.2.2.2.1 k hlt t e.symm; omega)).trans (hhA t ht ht2))))
    · obtain rfl : k = n := by omega
      have HR : Hid _ := And.intro hl (And.intro hm (And.intro hown (And.intro hin (And.intro hb (And.intro hz hh)))))
      clear hl hm hown hin hb hz hh
      go_wp2
      go_ret
      obtain ⟨r1, r2, r3, r4, r5, r6, r7⟩ := HR.out
      exact ⟨rfl, ⟨zs, r1, fun j hj f hf => by have t := r2 j hj f hf; rw [if_pos hj] at t; exact t, r3⟩, fun j hj => (r4 j hj).1 hj, r5, r6, r7⟩
theorem markSendObsS (q : Int) (base Bh : Nat) (v : Value) (L : List SSendObs) (w : World) (hn : L.length ≤ 1048576) (hS : sumB 6 SSendObs.d L L.length ≤ 1099511627776) (hq0 : 0 ≤ q) (hq1 : q ≤ 1099511627776) (h : BOwns 43 7 SSendObs.c SSendObs.d w base v L) (hB : BLo 43 7 SSendObs.c SSendObs.d w base v L Bh) :
    Calls Tryd.prog 11 #[v, .int .i64 q] w fun e w' => e = .returned (.int .i64 (q + (sumB 6 SSendObs.d L L.length : Int))) ∧ BOwns 43 7 SSendObs.c SSendObs.d w' base v (marksSendObs q L) ∧ Below base w w' ∧ w'.heap.size = w.heap.size ∧ (∀ k, Bh ≤ k → k < w.heap.size → w'.heap[k]? = w.heap[k]?) := by
  obtain ⟨U, ⟨zs, ho, hz⟩, hi, hap, hgB, hUB⟩ := hB
  rw [zl_length] at ho hz
  have hl : zs.length = L.length * 7 := ho.1
  have hz' : ∀ j, j < L.length → ∀ f, f < 7 → zs[j * 7 + f]? = ((L.getD j default).c (U j))[f]? := fun j hj f hf => by rw [← zl_at SSendObs.c L U j hj]; exact hz j hj f hf
  rcases ho.2 with ⟨rfl, h0⟩ | ⟨g, cap, cur, rfl, hg, hh, r⟩
  · have hR : L = [] := List.eq_nil_of_length_eq_zero h0
    subst hR
    refine (markSendObsS_nil q _ _ w).mono ?_
    rintro e w' ⟨rfl, rfl⟩
    exact ⟨by simp [sumB], h, Below.refl _ _, rfl, fun _ _ _ => rfl⟩
  · refine (markSendObsS_core q L U L.length base g cap Bh zs w rfl hn hS hq0 hq1 hg (hgB g rfl) hUB ho hl hz' hi hap).mono ?_
    rintro e w' ⟨rfl, ⟨ys, hy0, hy, ho2⟩, hi2, hb, hz2, hon⟩
    refine ⟨rfl, ⟨U, ⟨ys, by rw [zl_length, marksSendObs_length]; exact ho2, fun j hj f hf => ?_⟩, fun j hj => ?_, fun i j hij hj => hap i j hij (by rw [marksSendObs_length] at hj; exact hj)⟩, hb, hz2, hon⟩
    · rw [zl_length, marksSendObs_length] at hj
      rw [zl_at _ _ _ _ (by rw [marksSendObs_length]; exact hj), marksSendObs_at _ _ _ hj]
      exact hy j hj f hf
    · rw [marksSendObs_length] at hj
      rw [marksSendObs_at _ _ _ hj]
      have t := hi2 j hj
      have e1 : ((L.getD j default).mq (q + (sumB 6 SSendObs.d L j : Int))).d = marks (q + (sumB 6 SSendObs.d L j : Int) + 3) (L.getD j default).d.length := rfl
      rw [e1, marks_length]
      exact t
theorem heldSendObsS_nil (q : Int) (ao : Option Addr) (cp : Nat) (w : World) :
    Calls Tryd.prog 12 #[.slice ao 0 cp, .int .i64 q] w fun e w' => e = .returned (.int .i64 q) ∧ w' = w := by
  go_enter Tryd.func12, Tryd.ntmps12
  go_wp2
  refine wp_loop_rounds 1 ?_
  rw [rounds_succ]
  go_wp2
  go_ret
  exact ⟨rfl, rfl⟩
set_option maxRecDepth 20000 in
set_option maxHeartbeats 4000000 in
theorem heldSendObsS_core (q : Int) (L : List SSendObs) (U : Nat → Value) (n : Nat) (b off ca : Nat) (w : World) (en : n = L.length) (hn : n ≤ 1048576) (hS : sumB 6 SSendObs.d L n ≤ 1099511627776) (hq0 : 0 ≤ q) (hq1 : q ≤ 1099511627776)
    (hc : ∀ j : Nat, j < n → ∀ f, f < 7 → w.cell? ⟨b, off + (j * 7 + f), none⟩ = (((L.getD j default).mq (q + (sumB 6 SSendObs.d L j : Int))).c (U j))[f]?) (hr : ∀ j, j < n → Row w .u8 (U j) (marks (q + (sumB 6 SSendObs.d L j : Int) + 3) (L.getD j default).d.length)) :
    Calls Tryd.prog 12 #[.slice (some ⟨b, off, none⟩) n ca, .int .i64 q] w fun e w' => e = .returned (.int .i64 (q + (sumB 6 SSendObs.d L n : Int))) ∧ w' = w := by
  have HC : Hid _ := And.intro hc (And.intro hr (And.intro en hS))
  clear hc hr en hS
  go_enter Tryd.func12, Tryd.ntmps12
  go_wp2
  go_loopg [1, 5] n (fun z s i wr => ∃ k : Nat, k ≤ n ∧ z = n - k ∧ i = .int .i64 k ∧ s = .int .i64 (q + (sumB 6 SSendObs.d L k : Int)) ∧ wr = w)
  case atStart => exact ⟨0, Nat.zero_le _, by omega, rfl, by simp [sumB], rfl⟩
  case round =>
    obtain ⟨k, hk, hzz, rfl, rfl, ewr⟩ := hrel
    subst wr
    by_cases hlt : k < n
    · have hsk := sumB_mono 6 SSendObs.d L (show k + 1 ≤ n by omega)
      have hs1 : sumB 6 SSendObs.d L (k + 1) = sumB 6 SSendObs.d L k + (6 + (L.getD k default).d.length) := rfl
      have hS := HC.out.2.2.2
      obtain ⟨uk, euk⟩ : ∃ u, u = U k := ⟨_, rfl⟩
      obtain ⟨s, es⟩ : ∃ s, s = q + (sumB 6 SSendObs.d L k : Int) := ⟨_, rfl⟩
      obtain ⟨ln, eln⟩ : ∃ ln, ln = (L.getD k default).d.length := ⟨_, rfl⟩
      have hs0 : 0 ≤ s ∧ s + 3 + (ln : Int) ≤ 4398046511104 := by omega
      obtain ⟨s2, es2⟩ : ∃ s2, s2 = s + 3 + (ln : Int) := ⟨_, rfl⟩
      have hs2 : 0 ≤ s2 ∧ s2 ≤ 4398046511104 := by omega
      have hn2 : ¬ (s2 < 0) := by omega
      have hck := HC.out.1 k hlt
      have hrk := HC.out.2.1 k hlt
      rw [← euk, ← es] at hck hrk
      rw [← eln] at hrk
      rw [← es]
      obtain ⟨tb4, etb4⟩ : ∃ tb : Bool, tb = ((s2) % 3 == 0) := ⟨_, rfl⟩
      have htb4 : ((s2).tmod 3 == 0) = tb4 := by rw [etb4, Int.tmod_eq_emod_of_nonneg (by omega)]
      have htc4 : ((s2) % 3 == 0) = tb4 := by rw [etb4]
      have HT4 : Hid _ := And.intro etb4 True.intro
      clear etb4
      obtain ⟨tb5, etb5⟩ : ∃ tb : Bool, tb = ((s2 + 1) % 3 == 0) := ⟨_, rfl⟩
      have htb5 : ((s2 + 1).tmod 3 == 0) = tb5 := by rw [etb5, Int.tmod_eq_emod_of_nonneg (by omega)]
      have htc5 : ((s2 + 1) % 3 == 0) = tb5 := by rw [etb5]
      have HT5 : Hid _ := And.intro etb5 True.intro
      clear etb5
      obtain ⟨tb6, etb6⟩ : ∃ tb : Bool, tb = ((s2 + 1 + 1) % 3 == 0) := ⟨_, rfl⟩
      have htb6 : ((s2 + 1 + 1).tmod 3 == 0) = tb6 := by rw [etb6, Int.tmod_eq_emod_of_nonneg (by omega)]
      have htc6 : ((s2 + 1 + 1) % 3 == 0) = tb6 := by rw [etb6]
      have HT6 : Hid _ := And.intro etb6 True.intro
      clear etb6
      have w0 : IntKind.i64.wrap (s + 1) = s + 1 := by rw [IntKind.wrap_i64]; omega
      have w1 : IntKind.i64.wrap (s + 1 + 1) = s + 1 + 1 := by rw [IntKind.wrap_i64]; omega
      have w2 : IntKind.i64.wrap (s + 1 + 1 + 1) = s + 1 + 1 + 1 := by rw [IntKind.wrap_i64]; omega
      have w4 : IntKind.i64.wrap (s2 + 1) = s2 + 1 := by rw [IntKind.wrap_i64]; omega
      have w5 : IntKind.i64.wrap (s2 + 1 + 1) = s2 + 1 + 1 := by rw [IntKind.wrap_i64]; omega
      have w6 : IntKind.i64.wrap (s2 + 1 + 1 + 1) = s2 + 1 + 1 + 1 := by rw [IntKind.wrap_i64]; omega
      have c0 : w.cell? ⟨b, off + k * 7, none⟩ = some (.int .i64 (s)) := by have t := hck 0 (by omega); rw [show (off + (k * 7 + 0)) = off + k * 7 by omega] at t; rw [t]; first | rfl | exact congrArg some (congrArg (Value.int .i64) (show s + 0 = s by omega))
      have h0 : (s != s) = false := by simp
      have c1 : w.cell? ⟨b, off + k * 7 + 1, none⟩ = some (.int .i64 (s + 1)) := by have t := hck 1 (by omega); rw [show (off + (k * 7 + 1)) = off + k * 7 + 1 by omega] at t; rw [t]; first | rfl | exact congrArg some (congrArg (Value.int .i64) (show s + 1 = s + 1 by omega))
      have h1 : (s + 1 != s + 1) = false := by simp
      have c2 : w.cell? ⟨b, off + k * 7 + 2, none⟩ = some (.int .i64 (s + 1 + 1)) := by have t := hck 2 (by omega); rw [show (off + (k * 7 + 2)) = off + k * 7 + 2 by omega] at t; rw [t]; first | rfl | exact congrArg some (congrArg (Value.int .i64) (show s + 2 = s + 1 + 1 by omega))
      have h2 : (s + 1 + 1 != s + 1 + 1) = false := by simp
      have c3 : w.cell? ⟨b, off + k * 7 + 3, none⟩ = some uk := by have t := hck 3 (by omega); rw [show (off + (k * 7 + 3)) = off + k * 7 + 3 by omega] at t; rw [t]; rfl
      have c4 : w.cell? ⟨b, off + k * 7 + 4, none⟩ = some (.bool tb4) := by have t := hck 4 (by omega); rw [show (off + (k * 7 + 4)) = off + k * 7 + 4 by omega] at t; rw [t, HT4.out.1, es2, eln]; exact congrArg some (congrArg Value.bool (congrArg (fun z : Int => z % 3 == 0) (show s + 3 + ((L.getD k default).d.length : Int) = s + 3 + ((L.getD k default).d.length : Int) by omega)))
      have h4 : (tb4 != tb4) = false := by simp
      have c5 : w.cell? ⟨b, off + k * 7 + 5, none⟩ = some (.bool tb5) := by have t := hck 5 (by omega); rw [show (off + (k * 7 + 5)) = off + k * 7 + 5 by omega] at t; rw [t, HT5.out.1, es2, eln]; exact congrArg some (congrArg Value.bool (congrArg (fun z : Int => z % 3 == 0) (show s + 4 + ((L.getD k default).d.length : Int) = s + 3 + ((L.getD k default).d.length : Int) + 1 by omega)))
      have h5 : (tb5 != tb5) = false := by simp
      have c6 : w.cell? ⟨b, off + k * 7 + 6, none⟩ = some (.bool tb6) := by have t := hck 6 (by omega); rw [show (off + (k * 7 + 6)) = off + k * 7 + 6 by omega] at t; rw [t, HT6.out.1, es2, eln]; exact congrArg some (congrArg Value.bool (congrArg (fun z : Int => z % 3 == 0) (show s + 5 + ((L.getD k default).d.length : Int) = s + 3 + ((L.getD k default).d.length : Int) + 1 + 1 by omega)))
      have h6 : (tb6 != tb6) = false := by simp
      have C := heldBytes (s + 1 + 1 + 1) ln uk w (by first | exact hrk | (rw [show s + 1 + 1 + 1 = s + 3 by omega]; exact hrk)) (by omega) (by omega) (by omega)
      rw [show (s + 1 + 1 + 1) + (ln : Int) = s2 by rw [es2]; omega] at C
      have ES : Hid _ := And.intro C (And.intro es (And.intro es2 (And.intro eln hs1)))
      clear C es es2 eln hs1 hsk hS hck hrk euk
      go_wp2_with (go_at_call 22; refine ES.out.1.mono ?_; rintro e w' ⟨rfl, hw⟩; subst w')
      go_roundg (n - (k + 1))
      case measure => omega
      case rel =>
        obtain ⟨_, es, es2, eln, hs1⟩ := ES.out
        exact ⟨k + 1, by omega, rfl, by go_num, by rw [hs1, ← eln]; congr 1; omega, by trivial⟩
    · obtain rfl : k = n := by omega
      go_wp2
      go_ret
      exact ⟨rfl, by trivial⟩
theorem heldSendObsS (q : Int) (L : List SSendObs) (v : Value) (w : World) (h : BRow 7 SSendObs.c SSendObs.d w v (marksSendObs q L)) (hn : L.length ≤ 1048576) (hS : sumB 6 SSendObs.d L L.length ≤ 1099511627776) (hq0 : 0 ≤ q) (hq1 : q ≤ 1099511627776) :
    Calls Tryd.prog 12 #[v, .int .i64 q] w fun e w' => e = .returned (.int .i64 (q + (sumB 6 SSendObs.d L L.length : Int))) ∧ w' = w := by
  by_cases h0 : 0 < L.length
  · obtain ⟨b, off, ca, rfl, _, U, hc, hr⟩ := h.at' (by rw [marksSendObs_length]; exact h0)
    rw [marksSendObs_length] at hc hr ⊢
    exact heldSendObsS_core q L U L.length b off ca w rfl hn hS hq0 hq1 (fun j hj f hf => by rw [← marksSendObs_at q L j hj]; exact hc j hj f hf) (fun j hj => by have t := hr j hj; rw [marksSendObs_at q L j hj] at t; exact t)
  · obtain rfl : L = [] := List.eq_nil_of_length_eq_zero (by omega)
    obtain ⟨ao, cp, rfl⟩ := h.form
    have := heldSendObsS_nil q ao cp w
    simpa [marksSendObs, sumB] using this
end Go.Proofs.YtdkonhjbcgnfhaaDoor
