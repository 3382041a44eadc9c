import Derived.Test.YtjikdecfampbiaaFbPathOp
namespace Go.Proofs.Ytjikdecfampbiaa
open Go.RowKit
set_option linter.unusedVariables false

/-- What markPathOpS writes into one that begins at q. -/
def SPathOp.mq (q : Int) (e : SPathOp) : SPathOp := ⟨q, q + 1, q + 2, marks (q + 3) e.d.length⟩
def marksPathOp (q : Int) (L : List SPathOp) : List SPathOp := (List.range L.length).map fun j => (L.getD j default).mq (q + (sumB 3 SPathOp.d L j : Int))
theorem marksPathOp_length (q : Int) (L : List SPathOp) : (marksPathOp q L).length = L.length := by simp [marksPathOp]
theorem marksPathOp_at (q : Int) (L : List SPathOp) (j : Nat) (h : j < L.length) : (marksPathOp q L).getD j default = (L.getD j default).mq (q + (sumB 3 SPathOp.d L j : Int)) := by simp [marksPathOp, List.getD, h]
theorem markPathOpS_nil (q : Int) (ao : Option Addr) (cp : Nat) (w : World) :
    Calls Try.prog 10 #[.slice ao 0 cp, .int .i64 q] w fun e w' => e = .returned (.int .i64 q) ∧ w' = w := by
  go_enter Try.func10, Try.ntmps10
  go_wp2
  refine wp_loop_rounds 1 ?_
  rw [rounds_succ]
  go_wp2
  go_ret
  exact ⟨rfl, rfl⟩
set_option maxRecDepth 20000 in
set_option maxHeartbeats 4000000 in
theorem markPathOpS_core (q : Int) (L : List SPathOp) (U : Nat → Value) (n base g cap Bh : Nat) (zs0 : List Value) (w : World) (en : n = L.length) (hn : n ≤ 1048576) (hS : sumB 3 SPathOp.d L n ≤ 1099511627776) (hq0 : 0 ≤ q) (hq1 : q ≤ 1099511627776) (hg : base ≤ g) (hgB : g < Bh)
    (hUB : ∀ j, j < n → ∀ k, (U j).ownBlock = some k → k < Bh) (hown0 : w.ownsRow base 43 4 (.slice (some ⟨g, 0, none⟩) n cap) n zs0) (hl0 : zs0.length = n * 4) (hz0 : ∀ j, j < n → ∀ f, f < 4 → zs0[j * 4 + f]? = ((L.getD j default).c (U j))[f]?)
    (hi0 : ∀ j, j < n → w.ownsRow base 5 1 (U j) (L.getD j default).d.length ((L.getD j default).d.map (Value.int .u8))) (hap : ∀ (i j : Nat), i < j → j < n → ∀ t, (U j).ownBlock = some t → some t ≠ (U i).ownBlock) :
    Calls Try.prog 10 #[.slice (some ⟨g, 0, none⟩) n cap, .int .i64 q] w fun e w' => e = .returned (.int .i64 (q + (sumB 3 SPathOp.d L n : Int))) ∧
      (∃ zs : List Value, zs.length = n * 4 ∧ (∀ j : Nat, j < n → ∀ f, f < 4 → zs[j * 4 + f]? = (((L.getD j default).mq (q + (sumB 3 SPathOp.d L j : Int))).c (U j))[f]?) ∧ w'.ownsRow base 43 4 (.slice (some ⟨g, 0, none⟩) n cap) n zs) ∧
      (∀ j, j < n → w'.ownsRow base 5 1 (U j) (L.getD j default).d.length ((marks (q + (sumB 3 SPathOp.d L j : Int) + 3) (L.getD j default).d.length).map (Value.int .u8))) ∧ Below base w w' ∧ w'.heap.size = w.heap.size ∧ (∀ k, Bh ≤ k → k < w.heap.size → w'.heap[k]? = w.heap[k]?) := by
  have H0 : Hid _ := And.intro hown0 (And.intro hl0 (And.intro hz0 (And.intro hi0 (And.intro hap (And.intro hUB (And.intro en hS))))))
  clear hown0 hl0 hz0 hi0 hap hUB en hS
  go_enter Try.func10, Try.ntmps10
  go_wp2
  go_loopg [1, 5] n (fun z s i wr => ∃ k : Nat, k ≤ n ∧ z = n - k ∧ i = .int .i64 k ∧ s = .int .i64 (q + (sumB 3 SPathOp.d L k : Int)) ∧ ∃ zs : List Value, zs.length = n * 4 ∧ (∀ j : Nat, j < n → ∀ f, f < 4 → zs[j * 4 + f]? = (if j < k then ((L.getD j default).mq (q + (sumB 3 SPathOp.d L j : Int))).c (U j) else (L.getD j default).c (U j))[f]?) ∧
      wr.ownsRow base 43 4 (.slice (some ⟨g, 0, none⟩) n cap) n zs ∧ (∀ j, j < n → (j < k → wr.ownsRow base 5 1 (U j) (L.getD j default).d.length ((marks (q + (sumB 3 SPathOp.d L j : Int) + 3) (L.getD j default).d.length).map (Value.int .u8))) ∧ (k ≤ j → wr.ownsRow base 5 1 (U j) (L.getD j default).d.length ((L.getD j default).d.map (Value.int .u8)))) ∧ Below base w wr ∧ wr.heap.size = w.heap.size ∧ (∀ k, Bh ≤ k → k < w.heap.size → wr.heap[k]? = w.heap[k]?))
  case atStart => exact ⟨0, Nat.zero_le _, by omega, rfl, by simp [sumB], zs0, H0.out.2.1, fun j hj f hf => by rw [if_neg (by omega)]; exact H0.out.2.2.1 j hj f hf, H0.out.1, fun j hj => ⟨fun h => by omega, fun _ => H0.out.2.2.2.1 j hj⟩, Below.refl _ _, rfl, fun _ _ _ => rfl⟩
  case round =>
    obtain ⟨k, hk, hzz, rfl, rfl, zs, hl, hm, hown, hin, hb, hz, hh⟩ := hrel
    by_cases hlt : k < n
    · have hgl : g < wr.heap.size := (hown.lt g rfl).2
      obtain ⟨uk, euk⟩ : ∃ u, u = U k := ⟨_, rfl⟩
      have hcz := hm k hlt
      rw [if_neg (by omega), ← euk] at hcz
      have hzB : zs[k * 4 + 3]? = some uk := hcz 3 (by omega)
      have ink := (hin k hlt).2 (Nat.le_refl _)
      rw [← euk] at ink
      have d0 : k * 4 < n * 4 := by omega
      obtain ⟨z0, hz0'⟩ : ∃ z, zs[k * 4]? = some z := ⟨zs[k * 4]'(by omega), by simp [hl, d0]⟩
      have r0 := hown.cellAt (k * 4) d0
      rw [hz0'] at r0
      have p0 := hown.frozenAt (k * 4)
      have d1 : k * 4 + 1 < n * 4 := by omega
      obtain ⟨z1, hz1'⟩ : ∃ z, zs[k * 4 + 1]? = some z := ⟨zs[k * 4 + 1]'(by omega), by simp [hl, d1]⟩
      have r1 := hown.cellAt (k * 4 + 1) d1
      rw [hz1'] at r1
      have p1 := hown.frozenAt (k * 4 + 1)
      have d2 : k * 4 + 2 < n * 4 := by omega
      obtain ⟨z2, hz2'⟩ : ∃ z, zs[k * 4 + 2]? = some z := ⟨zs[k * 4 + 2]'(by omega), by simp [hl, d2]⟩
      have r2 := hown.cellAt (k * 4 + 2) d2
      rw [hz2'] at r2
      have p2 := hown.frozenAt (k * 4 + 2)
      have d3 : k * 4 + 3 < n * 4 := by omega
      have r3 := hown.cellAt (k * 4 + 3) d3
      rw [hzB] at r3
      have hsk := sumB_mono 3 SPathOp.d L (show k + 1 ≤ n by omega)
      have hs1 : sumB 3 SPathOp.d L (k + 1) = sumB 3 SPathOp.d L k + (3 + (L.getD k default).d.length) := rfl
      have hS := H0.out.2.2.2.2.2.2.2
      obtain ⟨s, es⟩ : ∃ s, s = q + (sumB 3 SPathOp.d L k : Int) := ⟨_, rfl⟩
      obtain ⟨ln, eln⟩ : ∃ ln, ln = (L.getD k default).d.length := ⟨_, rfl⟩
      have hs0 : 0 ≤ s ∧ s + 3 + (ln : Int) ≤ 4398046511104 := by omega
      obtain ⟨s2, es2⟩ : ∃ s2, s2 = s + 3 + (ln : Int) := ⟨_, rfl⟩
      have hs2 : 0 ≤ s2 ∧ s2 ≤ 4398046511104 := by omega
      rw [← es]
      have w0 : IntKind.i64.wrap (s + 1) = s + 1 := by rw [IntKind.wrap_i64]; omega
      have w1 : IntKind.i64.wrap (s + 1 + 1) = s + 1 + 1 := by rw [IntKind.wrap_i64]; omega
      have w2 : IntKind.i64.wrap (s + 1 + 1 + 1) = s + 1 + 1 + 1 := by rw [IntKind.wrap_i64]; omega
      obtain ⟨wA, ewA⟩ : ∃ wA : World, wA = (((wr.setCell ⟨g, k * 4, none⟩ (.int .i64 (s))).setCell ⟨g, k * 4 + 1, none⟩ (.int .i64 (s + 1))).setCell ⟨g, k * 4 + 2, none⟩ (.int .i64 (s + 1 + 1))) := ⟨_, rfl⟩
      obtain ⟨zA, ezA⟩ : ∃ zA : List Value, zA = (((zs.set (k * 4) (.int .i64 (s))).set (k * 4 + 1) (.int .i64 (s + 1))).set (k * 4 + 2) (.int .i64 (s + 1 + 1))) := ⟨_, rfl⟩
      have apg : ∀ j, j < n → ∀ t, (U j).ownBlock = some t → some t ≠ some g := fun j hj t ht e => by
        have h1 : ∃ xs, wr.ownsRow base 5 1 (U j) (L.getD j default).d.length xs := by
          by_cases hjk : j < k
          · exact ⟨_, (hin j hj).1 hjk⟩
          · exact ⟨_, (hin j hj).2 (by omega)⟩
        obtain ⟨xs, h1⟩ := h1
        exact types_apartB (by decide) hown h1 g rfl (by rw [← e, ht])
      have ownA : wA.ownsRow base 43 4 (.slice (some ⟨g, 0, none⟩) n cap) n zA := by rw [ewA, ezA]; exact (((hown.stored (k * 4) (.int .i64 (s))).1.stored (k * 4 + 1) (.int .i64 (s + 1))).1.stored (k * 4 + 2) (.int .i64 (s + 1 + 1))).1
      have innA : ∀ {xs : List Value} {ln : Nat} (j : Nat) (hj : j < n), wr.ownsRow base 5 1 (U j) ln xs → wA.ownsRow base 5 1 (U j) ln xs := fun {xs ln} j hj t => by rw [ewA]; exact (Only.setCell (w := _) ⟨g, k * 4 + 2, none⟩ (.int .i64 (s + 1 + 1))).owns ((Only.setCell (w := _) ⟨g, k * 4 + 1, none⟩ (.int .i64 (s + 1))).owns ((Only.setCell (w := _) ⟨g, k * 4, none⟩ (.int .i64 (s))).owns (t) (apg j hj)) (apg j hj)) (apg j hj)
      have belA : Below base w wA := by rw [ewA]; exact (((hb.setCell (p := ⟨g, k * 4, none⟩) hg (.int .i64 (s))).setCell (p := ⟨g, k * 4 + 1, none⟩) hg (.int .i64 (s + 1))).setCell (p := ⟨g, k * 4 + 2, none⟩) hg (.int .i64 (s + 1 + 1)))
      have szA : wA.heap.size = w.heap.size := by rw [ewA, ← hz]; simp [World.setCell]
      have hhA : ∀ t, Bh ≤ t → t < w.heap.size → wA.heap[t]? = w.heap[t]? := fun t ht ht2 => by rw [ewA]; exact (bk_other (show t ≠ g by omega) (k * 4 + 2) (.int .i64 (s + 1 + 1))).trans ((bk_other (show t ≠ g by omega) (k * 4 + 1) (.int .i64 (s + 1))).trans ((bk_other (show t ≠ g by omega) (k * 4) (.int .i64 (s))).trans (hh t ht ht2)))
      have C := markBytes (s + 1 + 1 + 1) ln base uk (L.getD k default).d wA (by omega) (by omega) (by omega) (by rw [eln, euk]; exact innA k hlt (by rw [← euk]; exact ink))
      have eS2 : (s + 1 + 1 + 1) + (ln : Int) = s2 := by rw [es2]; omega
      rw [eS2] at C
      have H2 : Hid _ := And.intro es (And.intro es2 (And.intro eln (And.intro hl (And.intro hm (And.intro ownA (And.intro (fun {xs} {ln} => @innA xs ln) (And.intro belA (And.intro szA (And.intro hhA (And.intro hin (And.intro euk (And.intro ezA (And.intro C (And.intro ink (And.intro hs1 apg)))))))))))))))
      clear es es2 eln hl hm hown ownA innA belA szA hhA hin euk C hb hz hh hcz ink hs1 hsk hS eS2 apg
      have ewA' : Hid _ := And.intro ewA True.intro
      subst ewA
      go_wp2_with fail
      go_at_call 23
      refine (H2.out.2.2.2.2.2.2.2.2.2.2.2.2.2.1).mono ?_
      rintro e w2 ⟨rfl, o2, b2, z2, n2⟩
      rw [H2.out.2.2.2.2.2.2.2.2.2.2.2.1] at n2
      have own2 := n2.owns H2.out.2.2.2.2.2.1 (fun t ht => types_apartB (by decide) H2.out.2.2.2.2.2.1 (H2.out.2.2.2.2.2.2.1 k hlt (by have e := H2.out.2.2.2.2.2.2.2.2.2.2.2.1; rw [← e]; exact H2.out.2.2.2.2.2.2.2.2.2.2.2.2.2.2.1)) t ht)

      have H3 : Hid _ := And.intro own2 (And.intro b2 (And.intro z2 (And.intro n2 o2)))
      clear own2 b2 z2 n2 o2 hz0' hz1' hz2'
      go_wp2
      go_roundg (n - (k + 1))
      case measure => omega
      case rel =>
        obtain ⟨es, es2, eln, hl, hm, ownA, innA, belA, szA, hhA, hin, euk, ezA, C, ink, hs1, apg⟩ := H2.out
        obtain ⟨own2, b2, z2, n2, o2⟩ := H3.out
        refine ⟨k + 1, by omega, rfl, by go_num, by first | (rw [hs1, ← eln]; done) | (rw [hs1, ← eln]; congr 1; omega), zA, by rw [ezA]; simp only [List.length_set]; exact hl, fun j hj f hf => ?_, own2, fun j hj => ?_, (H2.out.2.2.2.2.2.2.2.1.trans H3.out.2.1), by first | (rw [← szA, ← z2]; done) | (rw [← szA, ← z2]; simp [World.setCell]), fun t ht ht2 => ?_⟩
        · rw [ezA]
          by_cases hjk : j = k
          · subst hjk
            have hc := hm j hj
            rw [if_neg (by omega)] at hc
            rw [if_pos (by omega), ← es]
            unfold SPathOp.mq SPathOp.c
            obtain rfl | rfl | rfl | rfl : f = 0 ∨ f = 1 ∨ f = 2 ∨ f = 3 := by omega
            · rw [show j * 4 + 0 = j * 4 from rfl, List.getElem?_set_ne (by omega), List.getElem?_set_ne (by omega), List.getElem?_set_self (by first | omega | (simp only [List.length_set]; omega))]; rfl
            · rw [List.getElem?_set_ne (by omega), List.getElem?_set_self (by first | omega | (simp only [List.length_set]; omega))]; first | rfl | exact congrArg some (congrArg (Value.int .i64) (show s + 1 = s + 1 by omega))
            · rw [List.getElem?_set_self (by first | omega | (simp only [List.length_set]; omega))]; first | rfl | exact congrArg some (congrArg (Value.int .i64) (show s + 1 + 1 = s + 2 by omega))
            · rw [List.getElem?_set_ne (by omega), List.getElem?_set_ne (by omega), List.getElem?_set_ne (by omega)]; exact hc 3 (by omega)
          · rw [List.getElem?_set_ne (by omega), List.getElem?_set_ne (by omega), List.getElem?_set_ne (by omega)]
            have hc := hm j hj f hf
            by_cases hj2 : j < k
            · rw [if_pos hj2] at hc; rw [if_pos (by omega)]; exact hc
            · rw [if_neg hj2] at hc; rw [if_neg (by omega)]; exact hc
        · refine ⟨fun hjk => ?_, fun hkj => ?_⟩
          · by_cases e : j = k
            · have t := o2
              rw [euk, eln, es] at t
              try rw [show q + (sumB 3 SPathOp.d L k : Int) + 1 + 1 + 1 = q + (sumB 3 SPathOp.d L k : Int) + 3 by omega] at t
              rw [e]
              exact t
            · have t := n2.owns (innA j hj ((hin j hj).1 (by omega))) (fun t ht e3 => H0.out.2.2.2.2.1 j k (by omega) hlt t e3.symm ht.symm)
              exact t
          · have t := n2.owns (innA j hj ((hin j hj).2 (by omega))) (fun t ht => H0.out.2.2.2.2.1 k j (by omega) hj t ht)
            exact t
        · exact (n2.block t (fun e => by have := H0.out.2.2.2.2.2.1 k hlt t e.symm; omega)).trans (hhA t ht ht2)
    · obtain rfl : k = n := by omega
      have HR : Hid _ := And.intro hl (And.intro hm (And.intro hown (And.intro hin (And.intro hb (And.intro hz hh)))))
      clear hl hm hown hin hb hz hh
      go_wp2
      go_ret
      obtain ⟨r1, r2, r3, r4, r5, r6, r7⟩ := HR.out
      exact ⟨rfl, ⟨zs, r1, fun j hj f hf => by have t := r2 j hj f hf; rw [if_pos hj] at t; exact t, r3⟩, fun j hj => (r4 j hj).1 hj, r5, r6, r7⟩
theorem markPathOpS (q : Int) (base Bh : Nat) (v : Value) (L : List SPathOp) (w : World) (hn : L.length ≤ 1048576) (hS : sumB 3 SPathOp.d L L.length ≤ 1099511627776) (hq0 : 0 ≤ q) (hq1 : q ≤ 1099511627776) (h : BOwns 43 4 SPathOp.c SPathOp.d w base v L) (hB : BLo 43 4 SPathOp.c SPathOp.d w base v L Bh) :
    Calls Try.prog 10 #[v, .int .i64 q] w fun e w' => e = .returned (.int .i64 (q + (sumB 3 SPathOp.d L L.length : Int))) ∧ BOwns 43 4 SPathOp.c SPathOp.d w' base v (marksPathOp q L) ∧ Below base w w' ∧ w'.heap.size = w.heap.size ∧ (∀ k, Bh ≤ k → k < w.heap.size → w'.heap[k]? = w.heap[k]?) := by
  obtain ⟨U, ⟨zs, ho, hz⟩, hi, hap, hgB, hUB⟩ := hB
  rw [zl_length] at ho hz
  have hl : zs.length = L.length * 4 := ho.1
  have hz' : ∀ j, j < L.length → ∀ f, f < 4 → zs[j * 4 + f]? = ((L.getD j default).c (U j))[f]? := fun j hj f hf => by rw [← zl_at SPathOp.c L U j hj]; exact hz j hj f hf
  rcases ho.2 with ⟨rfl, h0⟩ | ⟨g, cap, cur, rfl, hg, hh, r⟩
  · have hR : L = [] := List.eq_nil_of_length_eq_zero h0
    subst hR
    refine (markPathOpS_nil q _ _ w).mono ?_
    rintro e w' ⟨rfl, rfl⟩
    exact ⟨by simp [sumB], h, Below.refl _ _, rfl, fun _ _ _ => rfl⟩
  · refine (markPathOpS_core q L U L.length base g cap Bh zs w rfl hn hS hq0 hq1 hg (hgB g rfl) hUB ho hl hz' hi hap).mono ?_
    rintro e w' ⟨rfl, ⟨ys, hy0, hy, ho2⟩, hi2, hb, hz2, hon⟩
    refine ⟨rfl, ⟨U, ⟨ys, by rw [zl_length, marksPathOp_length]; exact ho2, fun j hj f hf => ?_⟩, fun j hj => ?_, fun i j hij hj => hap i j hij (by rw [marksPathOp_length] at hj; exact hj)⟩, hb, hz2, hon⟩
    · rw [zl_length, marksPathOp_length] at hj
      rw [zl_at _ _ _ _ (by rw [marksPathOp_length]; exact hj), marksPathOp_at _ _ _ hj]
      exact hy j hj f hf
    · rw [marksPathOp_length] at hj
      rw [marksPathOp_at _ _ _ hj]
      have t := hi2 j hj
      have e1 : ((L.getD j default).mq (q + (sumB 3 SPathOp.d L j : Int))).d = marks (q + (sumB 3 SPathOp.d L j : Int) + 3) (L.getD j default).d.length := rfl
      rw [e1, marks_length]
      exact t
end Go.Proofs.Ytjikdecfampbiaa
