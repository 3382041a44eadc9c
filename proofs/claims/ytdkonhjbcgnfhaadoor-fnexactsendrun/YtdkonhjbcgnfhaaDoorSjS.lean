import Derived.Test.YtdkonhjbcgnfhaaDoorSjQ
import Derived.Test.YtdkonhjbcgnfhaaDoorSjR
import Derived.Deep.LoopGhost
import Derived.Deep.CutBlock
namespace Go.Proofs.YtdkonhjbcgnfhaaDoor
open Go.RowKit
set_option linter.unusedVariables false
set_option linter.unusedSimpArgs false

section
variable {P : Program} {ops : Array Oper} {Q : Exit → Act → World → Prop} {md : Region.Mode}
/-- An operation that is not wanted, over a slot that holds nothing. -/
theorem wpAny_skip {i : Nat} {oi : Oper} {fuel : Nat} {listed : Array Bool} {a : Act} {w : World} (hi : ops[i]? = some oi)
    (hs : Region.noSelect ops = true) (hf : Region.free md ops listed i = true) (hr : (Region.ready md ops listed).contains i = true)
    (hQ : ∀ c a w, Q (.panic c) (a.put oi.dst undef) w → Q (.panic c) a w) (hw : Region.wanted oi (yielded ops a.tmps) = false) (hd : a.put oi.dst undef = a)
    (h : wpAny P md ops Q fuel (listed.setIfInBounds i true) a w) : wpAny P md ops Q (fuel + 1) listed a w :=
  wpAny_take hi hs hf hr hQ (Or.inr ⟨hw, rfl⟩) (by rw [hd]; exact h)
end
theorem QRep.chgS {w w' : World} {D S : Nat → Prop} {g base : Nat} {m : SS} (h : QRep w D g base m) (C : Chg S w w') (hs : ∀ t, D t → ¬ S t) : QRep w' D g base m := by
  obtain ⟨vd, vh, hb, hA⟩ := h
  exact ⟨vd, vh, (C.block g hb.lt (hs g hA.dg)).trans hb, ⟨ownsChg C hA.od (fun t ht => hs t (hA.dd t ht)), ownsChg C hA.oh (fun t ht => hs t (hA.dh t ht)), hA.dg, hA.dd, hA.dh, fun k hk => Nat.lt_of_lt_of_le (hA.lt k hk) C.size, hA.gb⟩⟩
theorem QRep.ltQ {w : World} {D : Nat → Prop} {g base : Nat} {m : SS} (h : QRep w D g base m) : ∀ t, D t → t < w.heap.size := by
  obtain ⟨vd, vh, hb, hA⟩ := h
  exact hA.lt
theorem QRep.dgQ {w : World} {D : Nat → Prop} {g base : Nat} {m : SS} (h : QRep w D g base m) : D g := by
  obtain ⟨vd, vh, hb, hA⟩ := h
  exact hA.dg
set_option maxRecDepth 20000 in
set_option maxHeartbeats 4000000 in
theorem pull_none (g base : Nat) (m : SS) (n : Nat) (D : Nat → Prop) (w : World) (I : SI m) (hR : QRep w D g base m) (hn : n ≤ 1500) (hcr : m.credit ≤ 9223372036854775807) (hno : spV m n = none) :
    Calls Tryd.prog 26 #[.pointer (some ⟨g, 0, none⟩), .int .i64 (n : Int)] w fun e w' => PullP g base m n D w e w' := by
  have A0 : Below w.heap.size w ((w.alloc (so7 0 (.slice none 0 0) false false false)).alloc (so7 0 (.slice none 0 0) false false false)) := ((Below.refl _ _).alloc (Nat.le_refl _) _).alloc (by simp) _
  have C := pieceM g base m n D _ I (hR.belowQ A0) hn hcr
  rw [hno] at C
  have bv : spull m n = (m, 0, [], false, false, m.live && decide (m.next < m.B.length)) := by
    unfold spV at hno
    unfold spull
    by_cases hl : m.live = false
    · rw [if_pos hl, hl]; rfl
    · rw [if_neg hl] at hno ⊢
      have : m.live = true := by simpa using hl
      rw [hno, this]; rfl
  obtain ⟨bb, ebb⟩ : ∃ bb, bb = (m.live && decide (m.next < m.B.length)) := ⟨_, rfl⟩
  rw [← ebb] at bv
  obtain ⟨vd, vh, hb, hA⟩ := id hR
  have hB0 := hb.belowQ A0
  have hz := hb.lt
  obtain ⟨⟨da, dc, ed⟩, _⟩ := hA.shape
  have hbig := I.big
  have hnx := I.nx
  have e2 := bk_new2 w (so7 0 (.slice none 0 0) false false false) (so7 0 (.slice none 0 0) false false false)
  have H0 : Hid _ := And.intro C (And.intro A0 (And.intro hB0 (And.intro bv (And.intro hR (And.intro e2 (And.intro ebb ed))))))
  clear C A0 hB0 bv hR hb hA hno I hcr e2 ebb ed
  unfold PullP
  rw [H0.out.2.2.2.1]
  go_enter Tryd.func26, Tryd.ntmps26
  go_wp2_with fail
  go_at_call 38
  refine H0.out.1.mono ?_
  rintro e w1 ⟨rfl, q, hw1⟩
  have B1 : Below w.heap.size w w1 := by rw [hw1]; exact below_drewN H0.out.2.1 q
  have q1 : qB w1 g m.st m.credit m.next m.fin m.finish vd vh := by rw [hw1]; exact H0.out.2.2.1.drewM q
  have r1 : w1.heap[w.heap.size]? = some (so7 0 (.slice none 0 0) false false false) := by rw [hw1]; exact H0.out.2.2.2.2.2.1.1
  have o1 : w1.heap[w.heap.size + 1]? = some (so7 0 (.slice none 0 0) false false false) := by rw [hw1]; exact H0.out.2.2.2.2.2.1.2
  have H1 : Hid _ := And.intro B1 (And.intro q1 (And.intro r1 o1))
  clear B1 q1 r1 o1 hw1
  unfold pV
  go_upto_region 4 with fail
  have d2 : w1.drew.cell? ⟨g, 2, none⟩ = some (.int .i64 (m.next : Int)) := (bk_cell H1.out.2.1 2).trans rfl
  have d5 : w1.drew.cell? ⟨g, 5, none⟩ = some (.slice da m.B.length dc) := (bk_cell H1.out.2.1 5).trans (by rw [H0.out.2.2.2.2.2.2.2]; rfl)
  have d6 : w1.drew.cell? ⟨w.heap.size + 1, 6, none⟩ = some (.bool false) := (bk_cell H1.out.2.2.2 6).trans rfl
  have f6 : w1.drew.frozen? ⟨w.heap.size + 1, 6, none⟩ = false := bk_free H1.out.2.2.2 6
  obtain ⟨L, eL⟩ : ∃ L, L = m.B.length := ⟨_, rfl⟩
  obtain ⟨N, eN⟩ : ∃ N, N = m.next := ⟨_, rfl⟩
  rw [← eL] at d5 hbig hnx
  rw [← eN] at d2 hnx
  have HL : Hid _ := And.intro eL eN
  clear eL eN
  have gne : ¬ (g = w.heap.size + 1) := by omega
  have gne' : ¬ (w.heap.size + 1 = g) := by omega
  go_cut [8] from 20 to 34 (fun v wx => v = .bool false ∧ wx.heap[w.heap.size + 1]? = some (so7 0 (.slice none 0 0) false false bb) ∧ wx.heap[w.heap.size]? = some (so7 0 (.slice none 0 0) false false false) ∧ Below w.heap.size w wx)
  case first =>
    have LV : Hid (∀ u : World, qB u g m.st m.credit m.next m.fin m.finish vd vh → Calls Tryd.prog 28 #[.pointer (some ⟨g, 0, none⟩)] u fun e w' => e = .returned (.bool m.live) ∧ w' = u) := fun u hu => liveM g m.st m.credit m.next m.fin m.finish vd vh u hu
    have Q1 : Hid (qB w1.drew g m.st m.credit m.next m.fin m.finish vd vh) := H1.out.2.1
    by_cases hl : m.live = true
    · rw [hl] at LV
      have eb : bb = decide (N < L) := by rw [H0.out.2.2.2.2.2.2.1, hl, HL.out.1, HL.out.2]; simp
      have EB : Hid _ := And.intro eb True.intro
      clear eb
      go_region_held3 (fun w' => w'.cell? ⟨g, 2, none⟩ = some (.int .i64 (N : Int)) ∧ w'.cell? ⟨g, 5, none⟩ = some (.slice da L dc)) (first | exact ⟨cell_offT d2 gne, cell_offT d5 gne⟩ | go_keep)
        (first
          | (go_at_call 28; refine (LV.out w1.drew Q1.out).mono ?_; rintro e wy ⟨rfl, hwy⟩; subst wy))
      all_goals
        go_wp2_with fail
        go_meet
        refine ⟨rfl, ?_, ?_, ?_⟩
        · rw [EB.out.1]; exact heap_drewN 1 (bk_set H1.out.2.2.2 6 _)
        · exact heap_drewN 1 ((bk_other (by omega) 6 _).trans H1.out.2.2.1)
        · exact below_drewN (H1.out.1.setCell (p := ⟨w.heap.size + 1, 6, none⟩) (by simp) _) 1
    · have hl' : m.live = false := by simpa using hl
      rw [hl'] at LV
      have eb : bb = false := by rw [H0.out.2.2.2.2.2.2.1, hl']; rfl
      have EB : Hid _ := And.intro eb True.intro
      clear eb hl d2 d5
      refine wp_region_any (by kernel_rfl) ?_
      refine wpAny_take (i := 0) (v := .pointer (some ⟨g, 0, none⟩)) rfl (by kernel_rfl) (by kernel_rfl) (by kernel_rfl) (fun _ _ _ h => h) (Or.inl ⟨by rfl, fun u => by go_simp⟩) ?_
      refine wpAny_ready (rs := [1]) (by kernel_rfl) (by simp) ?_
      refine AllReady.cons rfl (fun K hK => ?_) AllReady.nil
      go_simp
      go_at_call 28
      refine (LV.out w1.drew Q1.out).mono ?_
      rintro e wy ⟨rfl, hwy⟩
      subst wy
      refine hK _ _ ?_
      clear hK K
      refine wpAny_take (i := 2) (v := .bool false) rfl (by kernel_rfl) (by kernel_rfl) (by kernel_rfl) (fun _ _ _ h => h) (Or.inl ⟨by rfl, fun u => by go_simp⟩) ?_
      refine wpAny_skip (i := 3) rfl (by kernel_rfl) (by kernel_rfl) (by kernel_rfl) (fun _ _ _ h => h) (by rfl) (by rfl) ?_
      refine wpAny_skip (i := 4) rfl (by kernel_rfl) (by kernel_rfl) (by kernel_rfl) (fun _ _ _ h => h) (by rfl) (by rfl) ?_
      refine wpAny_skip (i := 5) rfl (by kernel_rfl) (by kernel_rfl) (by kernel_rfl) (fun _ _ _ h => h) (by rfl) (by rfl) ?_
      refine wpAny_skip (i := 6) rfl (by kernel_rfl) (by kernel_rfl) (by kernel_rfl) (fun _ _ _ h => h) (by rfl) (by rfl) ?_
      refine wpAny_skip (i := 7) rfl (by kernel_rfl) (by kernel_rfl) (by kernel_rfl) (fun _ _ _ h => h) (by rfl) (by rfl) ?_
      refine wpAny_skip (i := 8) rfl (by kernel_rfl) (by kernel_rfl) (by kernel_rfl) (fun _ _ _ h => h) (by rfl) (by rfl) ?_
      refine wpAny_skip (i := 9) rfl (by kernel_rfl) (by kernel_rfl) (by kernel_rfl) (fun _ _ _ h => h) (by rfl) (by rfl) ?_
      refine wpAny_skip (i := 10) rfl (by kernel_rfl) (by kernel_rfl) (by kernel_rfl) (fun _ _ _ h => h) (by rfl) (by rfl) ?_
      refine wpAny_skip (i := 11) rfl (by kernel_rfl) (by kernel_rfl) (by kernel_rfl) (fun _ _ _ h => h) (by rfl) (by rfl) ?_
      refine wpAny_skip (i := 12) rfl (by kernel_rfl) (by kernel_rfl) (by kernel_rfl) (fun _ _ _ h => h) (by rfl) (by rfl) ?_
      refine wpAny_take (i := 13) (v := .bool false) rfl (by kernel_rfl) (by kernel_rfl) (by kernel_rfl) (fun _ _ _ h => h) (Or.inl ⟨by rfl, fun u => by go_simp⟩) ?_
      refine wpAny_take (i := 14) (v := .pointer (some ⟨w.heap.size + 1, 6, none⟩)) rfl (by kernel_rfl) (by kernel_rfl) (by kernel_rfl) (fun _ _ _ h => h) (Or.inl ⟨by rfl, fun u => by go_simp⟩) ?_
      refine wpAny_ready (rs := [15]) (by kernel_rfl) (by simp) ?_
      refine AllReady.cons rfl (fun K hK => ?_) AllReady.nil
      go_simp
      refine hK _ _ ?_
      clear hK K
      refine wpAny_done (by kernel_rfl) ?_ _
      go_wp2_with fail
      go_meet
      refine ⟨rfl, ?_, ?_, ?_⟩
      · rw [EB.out.1]; exact heap_drewN 1 (bk_set H1.out.2.2.2 6 _)
      · exact heap_drewN 1 ((bk_other (by omega) 6 _).trans H1.out.2.2.1)
      · exact below_drewN (H1.out.1.setCell (p := ⟨w.heap.size + 1, 6, none⟩) (by simp) _) 1
  case rest =>
  obtain ⟨rfl, o2, r2, B2⟩ := hcut
  have H2 : Hid _ := And.intro o2 (And.intro r2 B2)
  clear d2 d5 d6 f6
  have z2 : w.heap.size + 1 < wc.heap.size := (Array.getElem?_eq_some_iff.1 o2).1
  have xc0 : wc.cell? ⟨w.heap.size + 1, 0, none⟩ = some (.int .i64 0) := (bk_cell o2 0).trans rfl
  have xf0 : wc.frozen? ⟨w.heap.size + 1, 0, none⟩ = false := bk_free o2 0
  have xc1 : wc.cell? ⟨w.heap.size + 1, 1, none⟩ = some (.int .i64 0) := (bk_cell o2 1).trans rfl
  have xf1 : wc.frozen? ⟨w.heap.size + 1, 1, none⟩ = false := bk_free o2 1
  have xc2 : wc.cell? ⟨w.heap.size + 1, 2, none⟩ = some (.int .i64 0) := (bk_cell o2 2).trans rfl
  have xf2 : wc.frozen? ⟨w.heap.size + 1, 2, none⟩ = false := bk_free o2 2
  have xc3 : wc.cell? ⟨w.heap.size + 1, 3, none⟩ = some (.slice none 0 0) := (bk_cell o2 3).trans rfl
  have xf3 : wc.frozen? ⟨w.heap.size + 1, 3, none⟩ = false := bk_free o2 3
  have xc4 : wc.cell? ⟨w.heap.size + 1, 4, none⟩ = some (.bool false) := (bk_cell o2 4).trans rfl
  have xf4 : wc.frozen? ⟨w.heap.size + 1, 4, none⟩ = false := bk_free o2 4
  have xc5 : wc.cell? ⟨w.heap.size + 1, 5, none⟩ = some (.bool false) := (bk_cell o2 5).trans rfl
  have xf5 : wc.frozen? ⟨w.heap.size + 1, 5, none⟩ = false := bk_free o2 5
  have xc6 : wc.cell? ⟨w.heap.size + 1, 6, none⟩ = some (.bool bb) := (bk_cell o2 6).trans rfl
  have xf6 : wc.frozen? ⟨w.heap.size + 1, 6, none⟩ = false := bk_free o2 6
  have yc0 : wc.cell? ⟨w.heap.size, 0, none⟩ = some (.int .i64 0) := (bk_cell r2 0).trans rfl
  have yf0 : wc.frozen? ⟨w.heap.size, 0, none⟩ = false := bk_free r2 0
  have yc1 : wc.cell? ⟨w.heap.size, 1, none⟩ = some (.int .i64 0) := (bk_cell r2 1).trans rfl
  have yf1 : wc.frozen? ⟨w.heap.size, 1, none⟩ = false := bk_free r2 1
  have yc2 : wc.cell? ⟨w.heap.size, 2, none⟩ = some (.int .i64 0) := (bk_cell r2 2).trans rfl
  have yf2 : wc.frozen? ⟨w.heap.size, 2, none⟩ = false := bk_free r2 2
  have yc3 : wc.cell? ⟨w.heap.size, 3, none⟩ = some (.slice none 0 0) := (bk_cell r2 3).trans rfl
  have yf3 : wc.frozen? ⟨w.heap.size, 3, none⟩ = false := bk_free r2 3
  have yc4 : wc.cell? ⟨w.heap.size, 4, none⟩ = some (.bool false) := (bk_cell r2 4).trans rfl
  have yf4 : wc.frozen? ⟨w.heap.size, 4, none⟩ = false := bk_free r2 4
  have yc5 : wc.cell? ⟨w.heap.size, 5, none⟩ = some (.bool false) := (bk_cell r2 5).trans rfl
  have yf5 : wc.frozen? ⟨w.heap.size, 5, none⟩ = false := bk_free r2 5
  have yc6 : wc.cell? ⟨w.heap.size, 6, none⟩ = some (.bool false) := (bk_cell r2 6).trans rfl
  have yf6 : wc.frozen? ⟨w.heap.size, 6, none⟩ = false := bk_free r2 6
  clear o2 r2 B2
  go_wp2_with fail
  exact bodyPost_ret (v := .agg (so7c 0 0 (.slice none 0 0) false false bb)) (results_cell_row (t := 43) rfl _ _ w.heap.size _ (fr := (0, 0)) _ rfl (put7_blk H2.out.2.1 0 0 (.slice none 0 0) false false bb) Tryd.underlying43 rfl infoSObs) rfl ⟨_, rfl, World.ownsRow_nil _ _ _ _, (H0.out.2.2.2.2.1.belowQ H2.out.2.2).chgS (put7_chg wc w.heap.size 0 0 (.slice none 0 0) false false bb) (fun t ht e => by have := H0.out.2.2.2.2.1.ltQ t ht; have e : t = w.heap.size := e; omega), (Chg.of_below H2.out.2.2).new (put7_chg wc w.heap.size 0 0 (.slice none 0 0) false false bb) (Nat.le_refl _)⟩
end Go.Proofs.YtdkonhjbcgnfhaaDoor

namespace Go.Proofs.YtdkonhjbcgnfhaaDoor
open Go.RowKit
set_option linter.unusedVariables false
set_option linter.unusedSimpArgs false

set_option maxHeartbeats 400000 in
theorem copyQ (v : Value) (xs : List Int) (w : World) (hr : Row w .u8 v xs) (hl : xs.length ≤ 1048576) :
    Calls Tryd.prog 39 #[v] w fun e w' => ∃ r, e = .returned r ∧ w'.ownsRow w.heap.size 5 1 r xs.length (xs.map (Value.int .u8)) ∧ Below w.heap.size w w' := by
  have ba : Below w.heap.size w (w.alloc (.cells #[] 5)) := (Below.refl _ _).alloc (Nat.le_refl _) _
  have HN : Hid _ := And.intro (hr.below ba) (And.intro ba hl)
  clear hr ba hl
  go_enter Tryd.func39, Tryd.ntmps39
  go_wp2_with (at_builtin; refine wpList_append_row rfl _ _ rfl w.heap.size (.slice (some ⟨w.heap.size, 0, none⟩) 0 0) 0 [] rfl (World.ownsRow_lit w #[] 0 (Nat.le_refl _) (by decide) rfl) v xs rfl HN.out.1 (by have := HN.out.2.2; omega) (by simp) ?_; intro v' w2 hown2 hgrow at2)
  have R : w2.ownsRow w.heap.size 5 1 v' xs.length (xs.map (Value.int .u8)) := by simpa using hown2
  have B : Below w.heap.size w w2 := HN.out.2.1.grown hgrow (by simp) (by intro k hk; simp [Value.ownBlock] at hk; omega)
  have HR : Hid _ := And.intro R B
  clear R B hown2 hgrow at2
  go_wp2
  go_ret
  exact ⟨_, rfl, HR.out.1, HR.out.2⟩
theorem QRep.setC {w : World} {D : Nat → Prop} {g base : Nat} {m : SS} (h : QRep w D g base m) (i : Nat) (u : Value) (m' : SS) (hB : m'.B = m.B) (hW : m'.W = m.W) (hc : ∀ vd vh, qB w g m.st m.credit m.next m.fin m.finish vd vh → qB (w.setCell ⟨g, i, none⟩ u) g m'.st m'.credit m'.next m'.fin m'.finish vd vh) : QRep (w.setCell ⟨g, i, none⟩ u) D g base m' := by
  obtain ⟨vd, vh, hb, hA⟩ := h
  refine ⟨vd, vh, hc vd vh hb, ?_⟩
  rw [hB, hW]
  exact hA.setG (own_gt hA.oh hb (by decide)) (own_gt hA.od hb (by decide)) i u
theorem QRep.setSt {w : World} {D : Nat → Prop} {g base : Nat} {m : SS} (h : QRep w D g base m) (x : Nat) : QRep (w.setCell ⟨g, 0, none⟩ (.int .i64 (x : Int))) D g base { m with st := x } := h.setC 0 _ _ rfl rfl (fun _ _ hb => bk_set hb 0 _)
theorem QRep.setNx {w : World} {D : Nat → Prop} {g base : Nat} {m : SS} (h : QRep w D g base m) (x : Nat) : QRep (w.setCell ⟨g, 2, none⟩ (.int .i64 (x : Int))) D g base { m with next := x } := h.setC 2 _ _ rfl rfl (fun _ _ hb => bk_set hb 2 _)
theorem QRep.setFn {w : World} {D : Nat → Prop} {g base : Nat} {m : SS} (h : QRep w D g base m) (x : Nat) : QRep (w.setCell ⟨g, 3, none⟩ (.int .i64 (x : Int))) D g base { m with fin := x } := h.setC 3 _ _ rfl rfl (fun _ _ hb => bk_set hb 3 _)
theorem QRep.cells {w : World} {D : Nat → Prop} {g base : Nat} {m : SS} (h : QRep w D g base m) : w.cell? ⟨g, 0, none⟩ = some (.int .i64 (m.st : Int)) ∧ w.cell? ⟨g, 2, none⟩ = some (.int .i64 (m.next : Int)) ∧ w.cell? ⟨g, 3, none⟩ = some (.int .i64 (m.fin : Int)) ∧ w.cell? ⟨g, 4, none⟩ = some (.bool m.finish) ∧ w.frozen? ⟨g, 0, none⟩ = false ∧ w.frozen? ⟨g, 2, none⟩ = false ∧ w.frozen? ⟨g, 3, none⟩ = false ∧ ∃ da dc, w.cell? ⟨g, 5, none⟩ = some (.slice da m.B.length dc) := by
  obtain ⟨vd, vh, hb, hA⟩ := h
  obtain ⟨⟨da, dc, rfl⟩, _⟩ := hA.shape
  exact ⟨(bk_cell hb 0).trans rfl, (bk_cell hb 2).trans rfl, (bk_cell hb 3).trans rfl, (bk_cell hb 4).trans rfl, bk_free hb 0, bk_free hb 2, bk_free hb 3, da, dc, (bk_cell hb 5).trans rfl⟩
/-- A piece of what was written. -/
theorem QRep.part {w : World} {D : Nat → Prop} {g base a b : Nat} {m : SS} (h : QRep w D g base m) (hab : a ≤ b) (hb : b ≤ m.B.length) :
    (w.cell? ⟨g, 5, none⟩ = some (.slice none 0 0) ∧ m.B.length = 0) ∨ ∃ d dc, w.cell? ⟨g, 5, none⟩ = some (.slice (some ⟨d, 0, none⟩) m.B.length dc) ∧ m.B.length ≤ dc ∧ (∀ o, a = b → Row w .u8 (.slice (some ⟨d, o, none⟩) (b - a) (dc - a)) ((m.B.drop a).take (b - a))) ∧ Row w .u8 (.slice (some ⟨d, a, none⟩) (b - a) (dc - a)) ((m.B.drop a).take (b - a)) := by
  obtain ⟨vd, vh, hbb, hA⟩ := h
  rcases hA.od.2 with ⟨rfl, h1⟩ | ⟨d, dc, cur, rfl, hg, hh, hnc, hr⟩
  · exact Or.inl ⟨(bk_cell hbb 5).trans rfl, h1⟩
  · refine Or.inr ⟨d, dc, (bk_cell hbb 5).trans rfl, hnc, ?_, ?_⟩
    · intro o e
      subst e
      rw [Nat.sub_self]
      exact Or.inl ⟨by simp, _, _, rfl⟩
    · have hr0 := row_of_owns hA.od
      by_cases e : a = b
      · subst e
        rw [Nat.sub_self]
        exact Or.inl ⟨by simp, _, _, rfl⟩
      · have hf := hr0.full (by omega)
        have hc : ∀ j, j < m.B.length → w.cell? ⟨d, 0 + j, none⟩ = some (.int .u8 (m.B.getD j 0)) := fun j hj => by
          rw [Nat.zero_add, hA.od.cellAt j (by omega)]
          simp [List.getD, hj]
        obtain ⟨b0, o0, c0, e0, l0, ⟨k1, k2⟩, _⟩ := hf
        simp only [Value.slice.injEq, Option.some.injEq, Addr.mk.injEq] at e0
        have := row_cut (w := w) (k := .u8) (xs := m.B) (b := d) (off := 0) (at' := a) (n := b - a) (cap' := dc - a) (cap := dc) (Array.getElem?_eq_some_iff.1 hh).1 hc (by omega) ⟨by omega, by omega⟩
        rw [Nat.zero_add] at this
        exact this
/-- Amid the pull: the part, the answer's room, the observation. -/
structure PQ (w wx : World) (g base : Nat) (D : Nat → Prop) (m : SS) (off : Int) (rv : Value) (f : Bool) (X : List Int) : Prop where
  rep : QRep wx D g base m
  b0 : wx.heap[w.heap.size]? = some (so7 0 (.slice none 0 0) false false false)
  b1 : wx.heap[w.heap.size + 1]? = some (so7 off rv true f false)
  ch : Chg D w wx
  ow : wx.ownsRow (w.heap.size + 2) 5 1 rv X.length (X.map (Value.int .u8))
theorem PQ.chg {w wx wy : World} {g base : Nat} {D : Nat → Prop} {m m' : SS} {off : Int} {rv : Value} {f : Bool} {X : List Int} (h : PQ w wx g base D m off rv f X) (hlt : ∀ t, D t → t < w.heap.size) (c : Chg D wx wy) (r : QRep wy D g base m') : PQ w wy g base D m' off rv f X :=
  ⟨r, (c.block _ (Array.getElem?_eq_some_iff.1 h.b0).1 (fun e => by have := hlt _ e; omega)).trans h.b0, (c.block _ (Array.getElem?_eq_some_iff.1 h.b1).1 (fun e => by have := hlt _ e; omega)).trans h.b1, h.ch.trans c, ownsChg c h.ow (fun t ht e => by have := (h.ow.lt t ht).1; have := hlt t e; omega)⟩
theorem chgG {D : Nat → Prop} {w : World} {g : Nat} (hg : D g) (i : Nat) (u : Value) : Chg D w (w.setCell ⟨g, i, none⟩ u) := (chg_of_eq w).setD g i u (Or.inl hg)
set_option maxRecDepth 20000 in
set_option maxHeartbeats 8000000 in
theorem pull_some (g base : Nat) (m : SS) (n a b : Nat) (D : Nat → Prop) (w : World) (I : SI m) (hR : QRep w D g base m) (hn : n ≤ 1500) (hcr : m.credit ≤ 9223372036854775807) (hp : spV m n = some (a, b)) :
    Calls Tryd.prog 26 #[.pointer (some ⟨g, 0, none⟩), .int .i64 (n : Int)] w fun e w' => PullP g base m n D w e w' := by
  have hl : m.live = true := by
    cases q : m.live
    · unfold spV at hp; rw [if_pos q] at hp; cases hp
    · rfl
  have hp' : spiece m n = some (a, b) := by unfold spV at hp; rw [if_neg (by rw [hl]; decide)] at hp; exact hp
  obtain ⟨hab, han, hbB, hban, -, hn2⟩ := spiece_ok I hp'
  have hst : m.st < 3 := by simpa [SS.live] using hl
  obtain ⟨f, ef⟩ : ∃ f, f = (m.finish && decide (b = m.B.length) && decide (m.fin ≠ 2)) := ⟨_, rfl⟩
  have e : spull m n = ({ m with W := setN m.W a b 1, next := max m.next b, fin := if f then 1 else m.fin, st := if f then 2 else if m.st = 0 then 1 else m.st }, a, (m.B.drop a).take (b - a), true, f, false) := by unfold spull; rw [if_neg (by rw [hl]; decide), hp', ef]
  obtain ⟨M2, eM2⟩ : ∃ M, M = { m with W := setN m.W a b 1, next := max m.next b, fin := if f then 1 else m.fin, st := if f then 2 else if m.st = 0 then 1 else m.st } := ⟨_, rfl⟩
  obtain ⟨X, eX⟩ : ∃ X, X = (m.B.drop a).take (b - a) := ⟨_, rfl⟩
  rw [← eM2, ← eX] at e
  unfold PullP
  rw [e]
  have A0 : Below w.heap.size w ((w.alloc (so7 0 (.slice none 0 0) false false false)).alloc (so7 0 (.slice none 0 0) false false false)) := ((Below.refl _ _).alloc (Nat.le_refl _) _).alloc (by simp) _
  have C := pieceM g base m n D _ I (hR.belowQ A0) hn hcr
  rw [hp] at C
  have e2 := bk_new2 w (so7 0 (.slice none 0 0) false false false) (so7 0 (.slice none 0 0) false false false)
  have hlt := hR.ltQ
  have hbig := I.big
  have hlen := I.len
  have hnx := I.nx
  have hgl : g < w.heap.size := hlt g hR.dgQ
  have H0 : Hid _ := And.intro C (And.intro A0 (And.intro e2 (And.intro hR (And.intro hlt (And.intro hn2 (And.intro ef (And.intro eM2 (And.intro eX hlen))))))))
  clear C A0 e2 hR hlt hn2 ef eM2 eX hlen hp hp' hl I hcr e
  unfold pV at H0
  go_enter Tryd.func26, Tryd.ntmps26
  go_wp2_with fail
  go_at_call 38
  refine H0.out.1.mono ?_
  rintro e w1 ⟨rfl, q, hw1⟩
  have B1 : Below w.heap.size w w1 := by rw [hw1]; exact below_drewN H0.out.2.1 q
  have r1 : w1.heap[w.heap.size]? = some (so7 0 (.slice none 0 0) false false false) := by rw [hw1]; exact H0.out.2.2.1.1
  have o1 : w1.heap[w.heap.size + 1]? = some (so7 0 (.slice none 0 0) false false false) := by rw [hw1]; exact H0.out.2.2.1.2
  have hs1 : w.heap.size + 1 < w1.heap.size := (Array.getElem?_eq_some_iff.1 o1).1
  have xc0 : w1.cell? ⟨w.heap.size + 1, 0, none⟩ = some (.int .i64 0) := (bk_cell o1 0).trans rfl
  have xf0 : w1.frozen? ⟨w.heap.size + 1, 0, none⟩ = false := bk_free o1 0
  have xc1 : w1.cell? ⟨w.heap.size + 1, 1, none⟩ = some (.int .i64 0) := (bk_cell o1 1).trans rfl
  have xf1 : w1.frozen? ⟨w.heap.size + 1, 1, none⟩ = false := bk_free o1 1
  have xc2 : w1.cell? ⟨w.heap.size + 1, 2, none⟩ = some (.int .i64 0) := (bk_cell o1 2).trans rfl
  have xf2 : w1.frozen? ⟨w.heap.size + 1, 2, none⟩ = false := bk_free o1 2
  have xc3 : w1.cell? ⟨w.heap.size + 1, 3, none⟩ = some (.slice none 0 0) := (bk_cell o1 3).trans rfl
  have xf3 : w1.frozen? ⟨w.heap.size + 1, 3, none⟩ = false := bk_free o1 3
  have xc4 : w1.cell? ⟨w.heap.size + 1, 4, none⟩ = some (.bool false) := (bk_cell o1 4).trans rfl
  have xf4 : w1.frozen? ⟨w.heap.size + 1, 4, none⟩ = false := bk_free o1 4
  have xc5 : w1.cell? ⟨w.heap.size + 1, 5, none⟩ = some (.bool false) := (bk_cell o1 5).trans rfl
  have xf5 : w1.frozen? ⟨w.heap.size + 1, 5, none⟩ = false := bk_free o1 5
  have xc6 : w1.cell? ⟨w.heap.size + 1, 6, none⟩ = some (.bool false) := (bk_cell o1 6).trans rfl
  have xf6 : w1.frozen? ⟨w.heap.size + 1, 6, none⟩ = false := bk_free o1 6
  have H1 : Hid _ := And.intro B1 (And.intro r1 o1)
  clear B1 r1 o1 hw1
  go_upto_region 8 with fail
  obtain ⟨X1, eX1⟩ : ∃ X1, X1 = (w1.setCell ⟨w.heap.size + 1, 4, none⟩ (.bool true)).setCell ⟨w.heap.size + 1, 2, none⟩ (.int .i64 (a : Int)) := ⟨_, rfl⟩
  have cX : Chg (fun t => t = w.heap.size + 1) w1 X1 := by
    have h0 : Chg (fun t => t = w.heap.size + 1) w1 w1 := chg_of_eq w1
    rw [eX1]
    exact (h0.set' (w.heap.size + 1) 4 _ rfl).set' (w.heap.size + 1) 2 _ rfl
  have kX0 : X1.heap[w.heap.size]? = some (so7 0 (.slice none 0 0) false false false) := (cX.block _ (by omega) (by omega)).trans H1.out.2.1
  have kX1 : X1.heap[w.heap.size + 1]? = some (so7 (a : Int) (.slice none 0 0) true false false) := by rw [eX1]; exact bk_set (bk_set H1.out.2.2 4 _) 2 _
  have rX : QRep X1 D g base m := (H0.out.2.2.2.1.belowQ H1.out.1).chgS cX (fun t ht e => by have := H0.out.2.2.2.2.1 t ht; have e : t = w.heap.size + 1 := e; omega)
  have chX : Chg D w X1 := (Chg.of_below H1.out.1).new cX (by omega)
  have hsX : w.heap.size + 1 < X1.heap.size := (Array.getElem?_eq_some_iff.1 kX1).1
  have hgX : g < X1.heap.size := by omega
  rw [← eX1]
  have HX : Hid _ := And.intro kX0 (And.intro kX1 (And.intro rX chX))
  obtain ⟨L, eL⟩ : ∃ L, L = m.B.length := ⟨_, rfl⟩
  have hlX : X.length = b - a := by rw [H0.out.2.2.2.2.2.2.2.2.1, List.length_take, List.length_drop]; omega
  have pt := rX.part hab hbB
  rw [← H0.out.2.2.2.2.2.2.2.2.1] at pt
  clear xc0 xf0 xc1 xf1 xc2 xf2 xc3 xf3 xc4 xf4 xc5 xf5 xc6 xf6
  clear cX kX0 kX1 rX chX eX1
  rw [← eL] at hbB hbig hnx pt
  have EL : Hid _ := And.intro eL True.intro
  clear eL
  go_cut [6] from 39 to 47 (fun v6 wx => v6 = .int .i64 (a : Int) ∧ ∃ rv, PQ w wx g base D m (a : Int) rv false X)
  case first =>
    have fz3 : X1.frozen? ⟨w.heap.size + 1, 3, none⟩ = false := bk_free HX.out.2.1 3
    have cz3 : X1.cell? ⟨w.heap.size + 1, 3, none⟩ = some (.slice none 0 0) := (bk_cell HX.out.2.1 3).trans rfl
    have after : ∀ (r : Value) (w2 : World), w2.ownsRow X1.heap.size 5 1 r X.length (X.map (Value.int .u8)) → Below X1.heap.size X1 w2 → PQ w (w2.setCell ⟨w.heap.size + 1, 3, none⟩ r) g base D m (a : Int) r false X := fun r w2 o2 b2 => by
      have c3 : Chg (fun t => t = w.heap.size + 1) w2 (w2.setCell ⟨w.heap.size + 1, 3, none⟩ r) := (chg_of_eq w2).set' (w.heap.size + 1) 3 _ rfl
      exact ⟨(HX.out.2.2.1.belowQ b2).chgS c3 (fun t ht e => by have := H0.out.2.2.2.2.1 t ht; have e : t = w.heap.size + 1 := e; omega), (bk_other (by omega) 3 _).trans ((b2.block _ (by omega)).trans HX.out.1), bk_set ((b2.block _ hsX).trans HX.out.2.1) 3 _, (HX.out.2.2.2.trans (Chg.of_below b2)).new c3 (by omega), owns_mono (ownsChg c3 o2 (fun t ht e => by have := (o2.lt t ht).1; have e : t = w.heap.size + 1 := e; omega)) (by omega)⟩
    have HA : Hid _ := And.intro after True.intro
    clear after
    rcases pt with ⟨d5, hL0⟩ | ⟨d, dc, d5, hLc, hrow0, hrow⟩
    · obtain rfl : b = 0 := by omega
      obtain rfl : a = 0 := by omega
      have CL : Hid _ := And.intro (copyQ (.slice none 0 0) X X1 (Or.inl ⟨List.eq_nil_of_length_eq_zero hlX, _, _, rfl⟩) (by rw [hlX]; omega)) hlX
      clear hlX hL0
      go_wp2_with (go_at_call 39; refine CL.out.1.mono ?_; rintro e w2 ⟨r, rfl, o2, b2⟩; obtain ⟨ra, rc, er⟩ := own_form o2; rw [CL.out.2] at er; subst er; have cz := (b2.cell (p := ⟨w.heap.size + 1, 3, none⟩) hsX).trans cz3; have fz : w2.frozen? ⟨w.heap.size + 1, 3, none⟩ = false := bk_free ((b2.block _ hsX).trans HX.out.2.1) 3; have hz2 := b2.size; have H2 : Hid _ := And.intro o2 b2; clear o2 b2)
      go_meet
      exact ⟨rfl, _, HA.out.1 _ _ H2.out.1 H2.out.2⟩
    · have hba : ((b : Int) - (a : Int)).toNat = b - a := by omega
      by_cases hda : dc = a
      · obtain rfl : b = a := by omega
        obtain rfl : dc = b := by omega
        obtain rfl : L = dc := by omega
        have CL : Hid _ := And.intro (fun o => copyQ (.slice (some ⟨d, o, none⟩) 0 0) X X1 (by have t := hrow0 o rfl; rw [Nat.sub_self] at t; exact t) (by rw [hlX]; omega)) (show X.length = 0 by rw [hlX, Nat.sub_self])
        clear hlX hLc hrow0 hrow
        go_wp2_with (go_at_call 39; refine (CL.out.1 _).mono ?_; rintro e w2 ⟨r, rfl, o2, b2⟩; obtain ⟨ra, rc, er⟩ := own_form o2; rw [CL.out.2] at er; subst er; have cz := (b2.cell (p := ⟨w.heap.size + 1, 3, none⟩) hsX).trans cz3; have fz : w2.frozen? ⟨w.heap.size + 1, 3, none⟩ = false := bk_free ((b2.block _ hsX).trans HX.out.2.1) 3; have hz2 := b2.size; have H2 : Hid _ := And.intro o2 b2; clear o2 b2)
        go_meet
        exact ⟨rfl, _, HA.out.1 _ _ H2.out.1 H2.out.2⟩
      · have CL : Hid _ := And.intro (copyQ (.slice (some ⟨d, a, none⟩) (b - a) (dc - a)) X X1 hrow (by rw [hlX]; omega)) hlX
        clear hlX hrow0 hrow
        go_wp2_with (go_at_call 39; refine CL.out.1.mono ?_; rintro e w2 ⟨r, rfl, o2, b2⟩; obtain ⟨ra, rc, er⟩ := own_form o2; rw [CL.out.2] at er; subst er; have cz := (b2.cell (p := ⟨w.heap.size + 1, 3, none⟩) hsX).trans cz3; have fz : w2.frozen? ⟨w.heap.size + 1, 3, none⟩ = false := bk_free ((b2.block _ hsX).trans HX.out.2.1) 3; have hz2 := b2.size; have H2 : Hid _ := And.intro o2 b2; clear o2 b2)
        go_meet
        exact ⟨rfl, _, HA.out.1 _ _ H2.out.1 H2.out.2⟩
  case rest =>
  obtain ⟨rfl, rv, hPQ⟩ := hcut
  have HP : Hid _ := And.intro hPQ True.intro
  clear hPQ pt hlX
  obtain ⟨NN, eNN⟩ : ∃ k, k = b - a := ⟨_, rfl⟩
  go_wp2_with fail
  go_loopg [9] NN (fun q i wr => ∃ k : Nat, k ≤ NN ∧ q = NN - k ∧ i = .int .i64 ((a + k : Nat) : Int) ∧ PQ w wr g base D { m with W := setN m.W a (a + k) 1 } (a : Int) rv false X)
  case atStart => exact ⟨0, by omega, by omega, rfl, by rw [Nat.add_zero, setN_empty]; exact HP.out.1⟩
  case round =>
    obtain ⟨k, hk, hq, rfl, hK⟩ := hrel
    by_cases hlt : k < NN
    · have hkb : ((a + k : Nat) : Int) < (b : Int) := by omega
      have hlen := H0.out.2.2.2.2.2.2.2.2.2
      have hkW : a + k < m.W.length := by have := EL.out.1; omega
      have hsl : (setN m.W a (a + k) 1).length = L := by rw [setN_length, hlen]; exact EL.out.1.symm
      have hne := H0.out.2.2.2.2.2.1 (a + k) (by omega) (by omega)
      have hnxt := setN_next m.W a (a + k) 1 (by omega) hkW
      rw [if_neg hne] at hnxt
      obtain ⟨vd, vh, hb, hA⟩ := hK.rep
      have oh := hA.oh
      simp only [] at oh
      rw [hsl] at oh
      obtain ⟨tb, tcap, e1, tcell, tfro⟩ := row_how oh hsl.symm (a + k) (by omega)
      have d6 : wr.cell? ⟨g, 6, none⟩ = some (.slice (some ⟨tb, 0, none⟩) L tcap) := by rw [← e1]; exact (bk_cell hb 6).trans rfl
      have ntg : tb ≠ g := own_gt oh hb (by decide) tb (by rw [e1]; rfl)
      have hrep : QRep (wr.setCell ⟨tb, a + k, none⟩ (.int .i64 1)) D g base { m with W := setN m.W a (a + (k + 1)) 1 } := by
        rw [← Nat.add_assoc, hnxt]
        subst e1
        exact ⟨vd, _, (bk_other (fun e => ntg e.symm) (a + k) _).trans hb, hA.put (k := a + k) (x := 1) hsl⟩
      have hnx2 : PQ w (wr.setCell ⟨tb, a + k, none⟩ (.int .i64 1)) g base D { m with W := setN m.W a (a + (k + 1)) 1 } (a : Int) rv false X := hK.chg H0.out.2.2.2.2.1 (chgG (hA.dh tb (by rw [e1]; rfl)) (a + k) _) hrep
      have tlt : tb < wr.heap.size := (oh.lt tb (by rw [e1]; rfl)).2
      have hgr : g < wr.heap.size := hb.lt
      obtain ⟨v0, ev0⟩ : ∃ v : Int, v = (((setN m.W a (a + k) 1).getD (a + k) 0 : Nat) : Int) := ⟨_, rfl⟩
      rw [← ev0] at tcell
      have H2 : Hid _ := And.intro hnx2 True.intro
      have hkI : (0 : Int) ≤ ((a + k : Nat) : Int) ∧ ((a + k : Nat) : Int) < (L : Int) := by omega
      obtain ⟨ix, eix⟩ : ∃ ix, ix = a + k := ⟨_, rfl⟩
      rw [← eix] at tcell tfro hkI hkb H2
      rw [← eix]
      have EI : Hid _ := And.intro eix True.intro
      clear hnx2 hrep hb hA oh hne hnxt hK hlen e1 ev0 hsl hkW eix
      go_wp2_with fail
      go_roundg (NN - (k + 1))
      case measure => omega
      case rel => exact ⟨k + 1, by omega, rfl, by (have := EI.out.1; subst this; go_num), H2.out.1⟩
    · obtain rfl : k = NN := by omega
      have hbk : a + k = b := by omega
      rw [hbk] at hK
      rw [hbk]
      have HK : Hid _ := And.intro hK True.intro
      obtain ⟨d0, d2, d3, d4, f0, f2, f3, da, dc, d5⟩ := hK.rep.cells
      have hgr : g < wr.heap.size := hK.rep.ltQ g hK.rep.dgQ
      have hs0 : w.heap.size + 1 < wr.heap.size := (Array.getElem?_eq_some_iff.1 hK.b1).1
      clear hK d0 d3 d4 f0 f3 d5 hbk eNN
      obtain ⟨mx, emx⟩ : ∃ mx : Nat, mx = max m.next b := ⟨_, rfl⟩
      go_upto_region 13 with fail
      go_cut [7] from 60 to 68 (fun v7 wx => v7 = .int .i64 (b : Int) ∧ wx = wr.setCell ⟨g, 2, none⟩ (.int .i64 (mx : Int)))
      case first =>
        have d2' : wr.cell? ⟨g, 2, none⟩ = some (.int .i64 (m.next : Int)) := d2
        have E : Hid _ := And.intro emx True.intro
        clear emx d2
        go_wp2_with fail
        go_meet
        exact ⟨rfl, by rw [E.out.1]; congr 2; omega⟩
      case rest =>
      obtain ⟨rfl, hwc⟩ := hcut
      obtain ⟨wA, ewA⟩ : ∃ x, x = wc := ⟨_, rfl⟩
      subst ewA
      have PQ2 : PQ w wA g base D { m with W := setN m.W a b 1, next := mx } (a : Int) rv false X := by rw [hwc]; exact HK.out.1.chg H0.out.2.2.2.2.1 (chgG HK.out.1.rep.dgQ 2 _) (HK.out.1.rep.setNx mx)
      clear hwc d2 f2 hgr hs0 HK HP HX
      have EM : Hid _ := And.intro emx True.intro
      clear emx
      obtain ⟨d0, -, -, -, f0, -, -, -⟩ := PQ2.rep.cells
      have d0' : wA.cell? ⟨g, 0, none⟩ = some (.int .i64 (m.st : Int)) := d0
      have hgc : g < wA.heap.size := PQ2.rep.ltQ g PQ2.rep.dgQ
      have HK : Hid _ := And.intro PQ2 True.intro
      clear PQ2 d0
      obtain ⟨zb, ezb⟩ : ∃ z : Bool, z = decide (m.st = 0) := ⟨_, rfl⟩
      have EZ : Hid _ := And.intro ezb True.intro
      clear ezb
      go_upto_region 14 with fail
      go_cut [73] from 69 to 72 (fun v73 wx => v73 = .bool zb ∧ wx = wA)
      case first =>
        by_cases h0 : m.st = 0
        · rw [h0] at d0'
          have E : Hid _ := And.intro h0 True.intro
          clear h0
          go_wp2_with fail
          go_meet
          exact ⟨by rw [EZ.out.1, decide_eq_true E.out.1], rfl⟩
        · have z0 : ((m.st : Int) == 0) = false := by simp; omega
          have E : Hid _ := And.intro h0 True.intro
          clear h0
          go_wp2_with fail
          go_meet
          exact ⟨by rw [EZ.out.1, decide_eq_false E.out.1], rfl⟩
      case rest =>
      obtain ⟨rfl, hwd⟩ := hcut
      subst wc
      obtain ⟨S1, eS1⟩ : ∃ S1 : Nat, S1 = if m.st = 0 then 1 else m.st := ⟨_, rfl⟩
      have PQs : PQ w (wA.setCell ⟨g, 0, none⟩ (.int .i64 1)) g base D { m with W := setN m.W a b 1, next := mx, st := 1 } (a : Int) rv false X := HK.out.1.chg H0.out.2.2.2.2.1 (chgG HK.out.1.rep.dgQ 0 _) (HK.out.1.rep.setSt 1)
      have HS : Hid _ := And.intro PQs eS1
      clear PQs eS1
      go_upto_if 73 with fail
      go_cut [7] from 74 to 76 (fun v7 wx => v7 = .int .i64 (b : Int) ∧ PQ w wx g base D { m with W := setN m.W a b 1, next := mx, st := S1 } (a : Int) rv false X)
      case first =>
        have e1 := HS.out.2
        have ez := EZ.out.1
        cases zb
        · have h0 : ¬ m.st = 0 := fun h => by rw [decide_eq_true h] at ez; cases ez
          rw [if_neg h0] at e1
          have E : Hid _ := And.intro e1 h0
          clear e1 h0 ez
          go_wp2_with fail
          go_meet
          exact ⟨rfl, by rw [E.out.1]; exact HK.out.1⟩
        · have h0 : m.st = 0 := by simpa using ez.symm
          rw [if_pos h0] at e1
          have E : Hid _ := And.intro e1 h0
          clear e1 h0 ez
          go_wp2_with fail
          go_meet
          exact ⟨rfl, by rw [E.out.1]; exact HS.out.1⟩
      case rest =>
      obtain ⟨rfl, PQ3⟩ := hcut
      clear d0' f0 hgc
      obtain ⟨wB, ewB⟩ : ∃ x, x = wc := ⟨_, rfl⟩
      subst ewB
      obtain ⟨d0, -, d3, d4, f0, -, f3, da, dc, d5⟩ := PQ3.rep.cells
      have d3' : wB.cell? ⟨g, 3, none⟩ = some (.int .i64 (m.fin : Int)) := d3
      have d4' : wB.cell? ⟨g, 4, none⟩ = some (.bool m.finish) := d4
      have d5' : wB.cell? ⟨g, 5, none⟩ = some (.slice da L dc) := by rw [EL.out.1]; exact d5
      have d0' : wB.cell? ⟨g, 0, none⟩ = some (.int .i64 (S1 : Int)) := d0
      have hgB : g < wB.heap.size := PQ3.rep.ltQ g PQ3.rep.dgQ
      have hs1B : w.heap.size + 1 < wB.heap.size := (Array.getElem?_eq_some_iff.1 PQ3.b1).1
      have HK3 : Hid _ := And.intro PQ3 True.intro
      clear d0 d3 d4 d5 PQ3
      go_upto_region 16 with fail
      go_cut [96] from 77 to 95 (fun v96 wx => v96 = .bool f ∧ wx = wB)
      case first =>
        have ef := H0.out.2.2.2.2.2.2.1
        rw [← EL.out.1] at ef
        have E : Hid _ := And.intro ef True.intro
        clear ef
        cases hf : m.finish
        · rw [hf] at d4' E
          go_wp2_with fail
          go_meet
          exact ⟨by rw [E.out.1]; rfl, rfl⟩
        · rw [hf] at d4' E
          by_cases e1 : b = L
          · have z1 : ((b : Int) == (L : Int)) = true := by simp [e1]
            have E1 : Hid _ := And.intro e1 True.intro
            clear e1
            by_cases e2 : m.fin = 2
            · rw [e2] at d3'
              go_wp2_with fail
              go_meet
              exact ⟨by rw [E.out.1, e2]; simp, rfl⟩
            · have z2 : ((m.fin : Int) != 2) = true := by simp; omega
              have E2 : Hid _ := And.intro e2 True.intro
              clear e2
              go_wp2_with fail
              go_meet
              exact ⟨by rw [E.out.1, decide_eq_true E1.out.1, decide_eq_true E2.out.1]; first | rfl | simp [z1, z2], rfl⟩
          · have z1 : ((b : Int) == (L : Int)) = false := by simp; omega
            have E1 : Hid _ := And.intro e1 True.intro
            clear e1
            go_wp2_with fail
            go_meet
            exact ⟨by rw [E.out.1, decide_eq_false E1.out.1]; simp, rfl⟩
      case rest =>
      obtain ⟨rfl, hwd⟩ := hcut
      subst wc
      clear d4' d5'
      go_upto_if 96 with fail
      go_cut [5] from 97 to 103 (fun v5 wx => v5 = .pointer (some ⟨w.heap.size + 1, 0, none⟩) ∧ PQ w wx g base D M2 (a : Int) rv f X)
      case first =>
        have eM := H0.out.2.2.2.2.2.2.2.1
        rw [← EM.out.1, ← HS.out.2] at eM
        cases f
        · have E : Hid _ := And.intro eM True.intro
          clear eM d0' d3' f0 f3
          go_wp2_with fail
          go_meet
          exact ⟨rfl, by rw [E.out.1]; exact HK3.out.1⟩
        · have c5 : wB.cell? ⟨w.heap.size + 1, 5, none⟩ = some (.bool false) := (bk_cell HK3.out.1.b1 5).trans rfl
          have f5 : wB.frozen? ⟨w.heap.size + 1, 5, none⟩ = false := bk_free HK3.out.1.b1 5
          have P5 : PQ w (wB.setCell ⟨w.heap.size + 1, 5, none⟩ (.bool true)) g base D { m with W := setN m.W a b 1, next := mx, st := S1 } (a : Int) rv true X := by
            have c : Chg (fun t => t = w.heap.size + 1) wB (wB.setCell ⟨w.heap.size + 1, 5, none⟩ (.bool true)) := (chg_of_eq wB).set' (w.heap.size + 1) 5 _ rfl
            exact ⟨HK3.out.1.rep.chgS c (fun t ht e => by have := H0.out.2.2.2.2.1 t ht; have e : t = w.heap.size + 1 := e; omega), (bk_other (by omega) 5 _).trans HK3.out.1.b0, bk_set HK3.out.1.b1 5 _, HK3.out.1.ch.new c (by omega), ownsChg c HK3.out.1.ow (fun t ht e => by have := (HK3.out.1.ow.lt t ht).1; have e : t = w.heap.size + 1 := e; omega)⟩
          have P6 := P5.chg H0.out.2.2.2.2.1 (chgG P5.rep.dgQ 3 (.int .i64 ((1 : Nat) : Int))) (P5.rep.setFn 1)
          have P7 := P6.chg H0.out.2.2.2.2.1 (chgG P6.rep.dgQ 0 (.int .i64 ((2 : Nat) : Int))) (P6.rep.setSt 2)
          have E : Hid _ := And.intro eM P7
          clear eM P5 P6 P7
          go_wp2_with fail
          go_meet
          exact ⟨rfl, by rw [E.out.1]; exact E.out.2⟩
      case rest =>
      obtain ⟨rfl, PQ4⟩ := hcut
      clear d0' d3' f0 f3 hgB hs1B
      obtain ⟨ra, rc, er⟩ := own_form PQ4.ow
      obtain ⟨rn, ern⟩ : ∃ rn, rn = X.length := ⟨_, rfl⟩
      rw [← ern] at er
      subst er
      have hs4 : w.heap.size + 1 < wc.heap.size := (Array.getElem?_eq_some_iff.1 PQ4.b1).1
      have xc0 : wc.cell? ⟨w.heap.size + 1, 0, none⟩ = some (.int .i64 0) := (bk_cell PQ4.b1 0).trans rfl
      have xf0 : wc.frozen? ⟨w.heap.size + 1, 0, none⟩ = false := bk_free PQ4.b1 0
      have xc1 : wc.cell? ⟨w.heap.size + 1, 1, none⟩ = some (.int .i64 0) := (bk_cell PQ4.b1 1).trans rfl
      have xf1 : wc.frozen? ⟨w.heap.size + 1, 1, none⟩ = false := bk_free PQ4.b1 1
      have xc2 : wc.cell? ⟨w.heap.size + 1, 2, none⟩ = some (.int .i64 (a : Int)) := (bk_cell PQ4.b1 2).trans rfl
      have xf2 : wc.frozen? ⟨w.heap.size + 1, 2, none⟩ = false := bk_free PQ4.b1 2
      have xc3 : wc.cell? ⟨w.heap.size + 1, 3, none⟩ = some (.slice ra rn rc) := (bk_cell PQ4.b1 3).trans rfl
      have xf3 : wc.frozen? ⟨w.heap.size + 1, 3, none⟩ = false := bk_free PQ4.b1 3
      have xc4 : wc.cell? ⟨w.heap.size + 1, 4, none⟩ = some (.bool true) := (bk_cell PQ4.b1 4).trans rfl
      have xf4 : wc.frozen? ⟨w.heap.size + 1, 4, none⟩ = false := bk_free PQ4.b1 4
      have xc5 : wc.cell? ⟨w.heap.size + 1, 5, none⟩ = some (.bool f) := (bk_cell PQ4.b1 5).trans rfl
      have xf5 : wc.frozen? ⟨w.heap.size + 1, 5, none⟩ = false := bk_free PQ4.b1 5
      have xc6 : wc.cell? ⟨w.heap.size + 1, 6, none⟩ = some (.bool false) := (bk_cell PQ4.b1 6).trans rfl
      have xf6 : wc.frozen? ⟨w.heap.size + 1, 6, none⟩ = false := bk_free PQ4.b1 6
      have yc0 : wc.cell? ⟨w.heap.size, 0, none⟩ = some (.int .i64 0) := (bk_cell PQ4.b0 0).trans rfl
      have yf0 : wc.frozen? ⟨w.heap.size, 0, none⟩ = false := bk_free PQ4.b0 0
      have yc1 : wc.cell? ⟨w.heap.size, 1, none⟩ = some (.int .i64 0) := (bk_cell PQ4.b0 1).trans rfl
      have yf1 : wc.frozen? ⟨w.heap.size, 1, none⟩ = false := bk_free PQ4.b0 1
      have yc2 : wc.cell? ⟨w.heap.size, 2, none⟩ = some (.int .i64 0) := (bk_cell PQ4.b0 2).trans rfl
      have yf2 : wc.frozen? ⟨w.heap.size, 2, none⟩ = false := bk_free PQ4.b0 2
      have yc3 : wc.cell? ⟨w.heap.size, 3, none⟩ = some (.slice none 0 0) := (bk_cell PQ4.b0 3).trans rfl
      have yf3 : wc.frozen? ⟨w.heap.size, 3, none⟩ = false := bk_free PQ4.b0 3
      have yc4 : wc.cell? ⟨w.heap.size, 4, none⟩ = some (.bool false) := (bk_cell PQ4.b0 4).trans rfl
      have yf4 : wc.frozen? ⟨w.heap.size, 4, none⟩ = false := bk_free PQ4.b0 4
      have yc5 : wc.cell? ⟨w.heap.size, 5, none⟩ = some (.bool false) := (bk_cell PQ4.b0 5).trans rfl
      have yf5 : wc.frozen? ⟨w.heap.size, 5, none⟩ = false := bk_free PQ4.b0 5
      have yc6 : wc.cell? ⟨w.heap.size, 6, none⟩ = some (.bool false) := (bk_cell PQ4.b0 6).trans rfl
      have yf6 : wc.frozen? ⟨w.heap.size, 6, none⟩ = false := bk_free PQ4.b0 6
      have H4 : Hid _ := And.intro PQ4 ern
      clear PQ4 ern
      go_wp2_with fail
      have cE := put7_chg wc w.heap.size 0 (a : Int) (.slice ra rn rc) true f false
      exact bodyPost_ret (v := .agg (so7c 0 (a : Int) (.slice ra rn rc) true f false)) (results_cell_row (t := 43) rfl _ _ w.heap.size _ (fr := (0, 0)) _ rfl (put7_blk H4.out.1.b0 0 (a : Int) (.slice ra rn rc) true f false) Tryd.underlying43 rfl infoSObs) rfl ⟨_, rfl, owns_mono (ownsChg cE H4.out.1.ow (fun t ht e => by have := (H4.out.1.ow.lt t ht).1; have e : t = w.heap.size := e; omega)) (by omega), H4.out.1.rep.chgS cE (fun t ht e => by have := H0.out.2.2.2.2.1 t ht; have e : t = w.heap.size := e; omega), H4.out.1.ch.new cE (Nat.le_refl _)⟩
end Go.Proofs.YtdkonhjbcgnfhaaDoor

namespace Go.Proofs.YtdkonhjbcgnfhaaDoor
open Go.RowKit
set_option linter.unusedVariables false
set_option linter.unusedSimpArgs false

theorem Chg.newS {S S' : Nat → Prop} {w w1 w' : World} (h : Chg S w w1) (o : Chg S' w1 w') (hk : ∀ t, S' t → w.heap.size ≤ t) : Chg S w w' :=
  ⟨o.os.trans h.os, o.tape.trans h.tape, o.output.trans h.output, Nat.le_trans h.size o.size, fun j hj hs => (o.block j (Nat.lt_of_lt_of_le hj h.size) (fun e => by have := hk j e; omega)).trans (h.block j hj hs)⟩
abbrev so7s (c st off : Int) (vd : Value) (s f b : Bool) : Array Value := #[.int .i64 c, .int .i64 st, .int .i64 off, vd, .bool s, .bool f, .bool b]
abbrev putO (w : World) (N : Nat) (c st off : Int) (vd : Value) (s f b : Bool) : World := ((((((w.setCell ⟨N, 0, none⟩ (.int .i64 c)).setCell ⟨N, 1, none⟩ (.int .i64 st)).setCell ⟨N, 2, none⟩ (.int .i64 off)).setCell ⟨N, 3, none⟩ vd).setCell ⟨N, 4, none⟩ (.bool s)).setCell ⟨N, 5, none⟩ (.bool f)).setCell ⟨N, 6, none⟩ (.bool b)
theorem putO_blk {w : World} {N : Nat} {T : TypeId} {v0 v1 v2 v3 v4 v5 v6 : Value} (h : w.heap[N]? = some (.cells #[v0, v1, v2, v3, v4, v5, v6] T (0, 0))) (c st off : Int) (vd : Value) (s f b : Bool) : (putO w N c st off vd s f b).heap[N]? = some (.cells (so7s c st off vd s f b) T (0, 0)) := by
  have h0 : (w.setCell ⟨N, 0, none⟩ (.int .i64 c)).heap[N]? = some (.cells #[.int .i64 c, v1, v2, v3, v4, v5, v6] T (0, 0)) := bk_set h 0 _
  have h1 : ((w.setCell ⟨N, 0, none⟩ (.int .i64 c)).setCell ⟨N, 1, none⟩ (.int .i64 st)).heap[N]? = some (.cells #[.int .i64 c, .int .i64 st, v2, v3, v4, v5, v6] T (0, 0)) := bk_set h0 1 _
  have h2 : (((w.setCell ⟨N, 0, none⟩ (.int .i64 c)).setCell ⟨N, 1, none⟩ (.int .i64 st)).setCell ⟨N, 2, none⟩ (.int .i64 off)).heap[N]? = some (.cells #[.int .i64 c, .int .i64 st, .int .i64 off, v3, v4, v5, v6] T (0, 0)) := bk_set h1 2 _
  have h3 : ((((w.setCell ⟨N, 0, none⟩ (.int .i64 c)).setCell ⟨N, 1, none⟩ (.int .i64 st)).setCell ⟨N, 2, none⟩ (.int .i64 off)).setCell ⟨N, 3, none⟩ vd).heap[N]? = some (.cells #[.int .i64 c, .int .i64 st, .int .i64 off, vd, v4, v5, v6] T (0, 0)) := bk_set h2 3 _
  have h4 : (((((w.setCell ⟨N, 0, none⟩ (.int .i64 c)).setCell ⟨N, 1, none⟩ (.int .i64 st)).setCell ⟨N, 2, none⟩ (.int .i64 off)).setCell ⟨N, 3, none⟩ vd).setCell ⟨N, 4, none⟩ (.bool s)).heap[N]? = some (.cells #[.int .i64 c, .int .i64 st, .int .i64 off, vd, .bool s, v5, v6] T (0, 0)) := bk_set h3 4 _
  have h5 : ((((((w.setCell ⟨N, 0, none⟩ (.int .i64 c)).setCell ⟨N, 1, none⟩ (.int .i64 st)).setCell ⟨N, 2, none⟩ (.int .i64 off)).setCell ⟨N, 3, none⟩ vd).setCell ⟨N, 4, none⟩ (.bool s)).setCell ⟨N, 5, none⟩ (.bool f)).heap[N]? = some (.cells #[.int .i64 c, .int .i64 st, .int .i64 off, vd, .bool s, .bool f, v6] T (0, 0)) := bk_set h4 5 _
  have h6 : (((((((w.setCell ⟨N, 0, none⟩ (.int .i64 c)).setCell ⟨N, 1, none⟩ (.int .i64 st)).setCell ⟨N, 2, none⟩ (.int .i64 off)).setCell ⟨N, 3, none⟩ vd).setCell ⟨N, 4, none⟩ (.bool s)).setCell ⟨N, 5, none⟩ (.bool f)).setCell ⟨N, 6, none⟩ (.bool b)).heap[N]? = some (.cells #[.int .i64 c, .int .i64 st, .int .i64 off, vd, .bool s, .bool f, .bool b] T (0, 0)) := bk_set h5 6 _
  exact h6
theorem putO_chg (w : World) (N : Nat) (c st off : Int) (vd : Value) (s f b : Bool) : Chg (· = N) w (putO w N c st off vd s f b) :=
  have h0 : Chg (fun k => k = N) w w := chg_of_eq w
  ((((((h0.set' N 0 _ rfl).set' N 1 _ rfl).set' N 2 _ rfl).set' N 3 _ rfl).set' N 4 _ rfl).set' N 5 _ rfl).set' N 6 _ rfl
abbrev opB (k a b : Int) (u : Value) (fb : Bool) : Obj := .cells #[.int .i64 k, .int .i64 a, .int .i64 b, u, .bool fb] 45
abbrev ob1 : Obj := .cells (so7c 1 0 (.slice none 0 0) false false false) 43
/-- The world behind the three boxes of run: the operation, the answer's room, the observation. -/
abbrev W3 (w : World) (k a b : Int) (u : Value) (fb : Bool) : World := ((w.alloc (opB k a b u fb)).alloc so0).alloc ob1
theorem w3_below (w : World) (k a b : Int) (u : Value) (fb : Bool) : Below w.heap.size w (W3 w k a b u fb) := (((Below.refl _ _).alloc (Nat.le_refl _) _).alloc (by simp) _).alloc (by simp <;> omega) _
theorem w3_size (w : World) (k a b : Int) (u : Value) (fb : Bool) : (W3 w k a b u fb).heap.size = w.heap.size + 3 := by simp
/-- The two rooms. -/
structure RoomS (w wx : World) (obs : Array Value) : Prop where
  b1 : wx.heap[w.heap.size + 1]? = some so0
  b2 : wx.heap[w.heap.size + 2]? = some (.cells obs 43 (0, 0))
theorem RoomS.lt {w wx : World} {obs : Array Value} (h : RoomS w wx obs) : w.heap.size + 2 < wx.heap.size := (Array.getElem?_eq_some_iff.1 h.b2).1
theorem RoomS.chg {w wx w' : World} {obs : Array Value} {S : Nat → Prop} (h : RoomS w wx obs) (hc : Chg S wx w') (hs : ∀ k, w.heap.size ≤ k → ¬ S k) : RoomS w w' obs :=
  ⟨(hc.block _ (by have := h.lt; omega) (hs _ (by omega))).trans h.b1, (hc.block _ h.lt (hs _ (by omega))).trans h.b2⟩
theorem room_new (w : World) (k a b : Int) (u : Value) (fb : Bool) : RoomS w (W3 w k a b u fb) (so7c 1 0 (.slice none 0 0) false false false) := by
  obtain ⟨h0, h1, h2⟩ := bk_new3 w (opB k a b u fb) so0 ob1
  exact ⟨h1, h2⟩
/-- What a call leaves. -/
def LeftS (g base : Nat) (D : Nat → Prop) (N : Nat) (w' : World) (M : SS) (r : Value) : Prop := ∃ D1, PRep w' D1 g base M ∧ (∀ t, D1 t → D t ∨ (N ≤ t ∧ t < w'.heap.size)) ∧ ∀ t, r.ownBlock = some t → ¬ D1 t
theorem LeftS.of {g base N : Nat} {D : Nat → Prop} {w' : World} {M : SS} {r : Value} (h : PRep w' D g base M) (hr : ∀ t, r.ownBlock = some t → ¬ D t) : LeftS g base D N w' M r := ⟨D, h, fun t ht => Or.inl ht, hr⟩
theorem LeftS.of0 {g base N c : Nat} {D : Nat → Prop} {w' : World} {M : SS} (h : PRep w' D g base M) : LeftS g base D N w' M (.slice none 0 c) := ⟨D, h, fun t ht => Or.inl ht, fun t ht => nomatch ht⟩
theorem LeftS.c1 {g base N : Nat} {D : Nat → Prop} {w' : World} {M : SS} {r : Value} (h : LeftS g base D N w' M r) : w'.cell? ⟨g, 1, none⟩ = some (.int .i64 (M.st : Int)) := by
  obtain ⟨D1, ⟨vd, vh, hb, hA⟩, _⟩ := h
  exact (bk_cell hb 1).trans rfl
theorem LeftS.chg {g base N : Nat} {D S : Nat → Prop} {w' w2 : World} {M : SS} {r : Value} (h : LeftS g base D N w' M r) (C : Chg S w' w2) (hs : ∀ t, S t → ¬ D t ∧ t < N) : LeftS g base D N w2 M r := by
  obtain ⟨D1, h1, h2, h3⟩ := h
  exact ⟨D1, h1.chg C (fun t ht q => (h2 t ht).elim (fun z => (hs t q).1 z) (fun z => by have := (hs t q).2; omega)), fun t ht => (h2 t ht).imp id (fun z => ⟨z.1, Nat.lt_of_lt_of_le z.2 C.size⟩), h3⟩
theorem LeftS.mono {g base N N' : Nat} {D : Nat → Prop} {w' : World} {M : SS} {r : Value} (h : LeftS g base D N w' M r) (hN : N' ≤ N) : LeftS g base D N' w' M r := by
  obtain ⟨D1, h1, h2, h3⟩ := h
  exact ⟨D1, h1, fun t ht => (h2 t ht).imp id (fun z => ⟨by omega, z.2⟩), h3⟩
set_option maxRecDepth 20000 in
set_option maxHeartbeats 4000000 in
theorem sop_write (g base : Nat) (D : Nat → Prop) (a b : Int) (u : Value) (fb : Bool) (w : World) (cd st : Int) (M1 : SS) (est : (M1.st : Int) = st) (hgl : g < w.heap.size) (hlt : ∀ t, D t → t < w.heap.size) (ua : Option Addr) (un uc : Nat) (eu : u = .slice ua un uc)
    (C : Calls Tryd.prog 30 #[.pointer (some ⟨g, 0, none⟩), .slice ua un uc] (W3 w 1 a b u fb) fun e w' => e = .returned (.int .i64 cd) ∧ LeftS g base D (w.heap.size + 3) w' M1 (.slice none 0 0) ∧ Chg D (W3 w 1 a b u fb) w') :
    Calls Tryd.prog 18 #[.pointer (some ⟨g, 0, none⟩), .agg #[.int .i64 1, .int .i64 a, .int .i64 b, u, .bool fb]] w fun e w' => e = .returned (.agg (so7s cd st 0 (.slice none 0 0) false false false)) ∧ LeftS g base D (w.heap.size + 3) w' M1 (.slice none 0 0) ∧ Chg D w w' := by
  have A0 := room_new w 1 a b u fb
  have hND : ∀ k, w.heap.size ≤ k → ¬ D k := fun k hk h => by have := hlt k h; omega
  subst eu
  have H0 : Hid _ := And.intro C (And.intro A0 (And.intro hND est))
  clear C A0 hND hlt est
  go_enter Tryd.func18, Tryd.ntmps18
  go_wp2_with (go_at_call 30; refine H0.out.1.mono ?_; rintro e w1 ⟨rfl, l1, c1⟩; have A1 := H0.out.2.1.chg c1 H0.out.2.2.1; have d1 := l1.c1; rw [H0.out.2.2.2] at d1; have zc0 : w1.cell? ⟨w.heap.size + 2, 0, none⟩ = some (.int .i64 1) := (bk_cell A1.b2 0).trans rfl; have zf0 : w1.frozen? ⟨w.heap.size + 2, 0, none⟩ = false := bk_free A1.b2 0; have zc1 : w1.cell? ⟨w.heap.size + 2, 1, none⟩ = some (.int .i64 0) := (bk_cell A1.b2 1).trans rfl; have zf1 : w1.frozen? ⟨w.heap.size + 2, 1, none⟩ = false := bk_free A1.b2 1; have zc2 : w1.cell? ⟨w.heap.size + 2, 2, none⟩ = some (.int .i64 0) := (bk_cell A1.b2 2).trans rfl; have zf2 : w1.frozen? ⟨w.heap.size + 2, 2, none⟩ = false := bk_free A1.b2 2; have zc3 : w1.cell? ⟨w.heap.size + 2, 3, none⟩ = some (.slice none 0 0) := (bk_cell A1.b2 3).trans rfl; have zf3 : w1.frozen? ⟨w.heap.size + 2, 3, none⟩ = false := bk_free A1.b2 3; have zc4 : w1.cell? ⟨w.heap.size + 2, 4, none⟩ = some (.bool false) := (bk_cell A1.b2 4).trans rfl; have zf4 : w1.frozen? ⟨w.heap.size + 2, 4, none⟩ = false := bk_free A1.b2 4; have zc5 : w1.cell? ⟨w.heap.size + 2, 5, none⟩ = some (.bool false) := (bk_cell A1.b2 5).trans rfl; have zf5 : w1.frozen? ⟨w.heap.size + 2, 5, none⟩ = false := bk_free A1.b2 5; have zc6 : w1.cell? ⟨w.heap.size + 2, 6, none⟩ = some (.bool false) := (bk_cell A1.b2 6).trans rfl; have zf6 : w1.frozen? ⟨w.heap.size + 2, 6, none⟩ = false := bk_free A1.b2 6; have yc0 : w1.cell? ⟨w.heap.size + 1, 0, none⟩ = some (.int .i64 0) := (bk_cell A1.b1 0).trans rfl; have yf0 : w1.frozen? ⟨w.heap.size + 1, 0, none⟩ = false := bk_free A1.b1 0; have yc1 : w1.cell? ⟨w.heap.size + 1, 1, none⟩ = some (.int .i64 0) := (bk_cell A1.b1 1).trans rfl; have yf1 : w1.frozen? ⟨w.heap.size + 1, 1, none⟩ = false := bk_free A1.b1 1; have yc2 : w1.cell? ⟨w.heap.size + 1, 2, none⟩ = some (.int .i64 0) := (bk_cell A1.b1 2).trans rfl; have yf2 : w1.frozen? ⟨w.heap.size + 1, 2, none⟩ = false := bk_free A1.b1 2; have yc3 : w1.cell? ⟨w.heap.size + 1, 3, none⟩ = some (.slice none 0 0) := (bk_cell A1.b1 3).trans rfl; have yf3 : w1.frozen? ⟨w.heap.size + 1, 3, none⟩ = false := bk_free A1.b1 3; have yc4 : w1.cell? ⟨w.heap.size + 1, 4, none⟩ = some (.bool false) := (bk_cell A1.b1 4).trans rfl; have yf4 : w1.frozen? ⟨w.heap.size + 1, 4, none⟩ = false := bk_free A1.b1 4; have yc5 : w1.cell? ⟨w.heap.size + 1, 5, none⟩ = some (.bool false) := (bk_cell A1.b1 5).trans rfl; have yf5 : w1.frozen? ⟨w.heap.size + 1, 5, none⟩ = false := bk_free A1.b1 5; have yc6 : w1.cell? ⟨w.heap.size + 1, 6, none⟩ = some (.bool false) := (bk_cell A1.b1 6).trans rfl; have yf6 : w1.frozen? ⟨w.heap.size + 1, 6, none⟩ = false := bk_free A1.b1 6; have hsz : w.heap.size + 2 < w1.heap.size := A1.lt; have H1 : Hid _ := And.intro A1 (And.intro l1 c1); clear A1 l1 c1)
  have cS : Chg (fun t => t = w.heap.size + 2 ∨ t = w.heap.size + 1) w1 (putO ((w1.setCell ⟨w.heap.size + 2, 0, none⟩ (.int .i64 cd)).setCell ⟨w.heap.size + 2, 1, none⟩ (.int .i64 st)) (w.heap.size + 1) cd st 0 (.slice none 0 0) false false false) :=
    (((chg_of_eq w1).set' (w.heap.size + 2) 0 _ (Or.inl rfl)).set' (w.heap.size + 2) 1 _ (Or.inl rfl)).trans ((putO_chg _ _ _ _ _ _ _ _ _).mono' (fun k _ e => Or.inr e))
  exact bodyPost_ret (v := .agg (so7s cd st 0 (.slice none 0 0) false false false)) (results_cell_row (t := 43) rfl _ _ (w.heap.size + 1) _ (fr := (0, 0)) _ rfl (putO_blk ((bk_other (by omega) 1 _).trans ((bk_other (by omega) 0 _).trans H1.out.1.b1)) cd st 0 (.slice none 0 0) false false false) Tryd.underlying43 rfl infoSObs) rfl ⟨rfl, H1.out.2.1.chg cS (fun t ht => ⟨H0.out.2.2.1 t (by omega), by omega⟩), ((Chg.of_below (w3_below w 1 a b _ fb)).trans H1.out.2.2).newS cS (fun t ht => by omega)⟩
set_option maxRecDepth 20000 in
set_option maxHeartbeats 4000000 in
theorem sop_fin (g base : Nat) (D : Nat → Prop) (a b : Int) (u : Value) (fb : Bool) (w : World) (cd st : Int) (M1 : SS) (est : (M1.st : Int) = st) (hgl : g < w.heap.size) (hlt : ∀ t, D t → t < w.heap.size)
    (C : Calls Tryd.prog 31 #[.pointer (some ⟨g, 0, none⟩)] (W3 w 2 a b u fb) fun e w' => e = .returned (.int .i64 cd) ∧ LeftS g base D (w.heap.size + 3) w' M1 (.slice none 0 0) ∧ Chg D (W3 w 2 a b u fb) w') :
    Calls Tryd.prog 18 #[.pointer (some ⟨g, 0, none⟩), .agg #[.int .i64 2, .int .i64 a, .int .i64 b, u, .bool fb]] w fun e w' => e = .returned (.agg (so7s cd st 0 (.slice none 0 0) false false false)) ∧ LeftS g base D (w.heap.size + 3) w' M1 (.slice none 0 0) ∧ Chg D w w' := by
  have A0 := room_new w 2 a b u fb
  have hND : ∀ k, w.heap.size ≤ k → ¬ D k := fun k hk h => by have := hlt k h; omega
  have H0 : Hid _ := And.intro C (And.intro A0 (And.intro hND est))
  clear C A0 hND hlt est
  go_enter Tryd.func18, Tryd.ntmps18
  go_wp2_with (go_at_call 31; refine H0.out.1.mono ?_; rintro e w1 ⟨rfl, l1, c1⟩; have A1 := H0.out.2.1.chg c1 H0.out.2.2.1; have d1 := l1.c1; rw [H0.out.2.2.2] at d1; have zc0 : w1.cell? ⟨w.heap.size + 2, 0, none⟩ = some (.int .i64 1) := (bk_cell A1.b2 0).trans rfl; have zf0 : w1.frozen? ⟨w.heap.size + 2, 0, none⟩ = false := bk_free A1.b2 0; have zc1 : w1.cell? ⟨w.heap.size + 2, 1, none⟩ = some (.int .i64 0) := (bk_cell A1.b2 1).trans rfl; have zf1 : w1.frozen? ⟨w.heap.size + 2, 1, none⟩ = false := bk_free A1.b2 1; have zc2 : w1.cell? ⟨w.heap.size + 2, 2, none⟩ = some (.int .i64 0) := (bk_cell A1.b2 2).trans rfl; have zf2 : w1.frozen? ⟨w.heap.size + 2, 2, none⟩ = false := bk_free A1.b2 2; have zc3 : w1.cell? ⟨w.heap.size + 2, 3, none⟩ = some (.slice none 0 0) := (bk_cell A1.b2 3).trans rfl; have zf3 : w1.frozen? ⟨w.heap.size + 2, 3, none⟩ = false := bk_free A1.b2 3; have zc4 : w1.cell? ⟨w.heap.size + 2, 4, none⟩ = some (.bool false) := (bk_cell A1.b2 4).trans rfl; have zf4 : w1.frozen? ⟨w.heap.size + 2, 4, none⟩ = false := bk_free A1.b2 4; have zc5 : w1.cell? ⟨w.heap.size + 2, 5, none⟩ = some (.bool false) := (bk_cell A1.b2 5).trans rfl; have zf5 : w1.frozen? ⟨w.heap.size + 2, 5, none⟩ = false := bk_free A1.b2 5; have zc6 : w1.cell? ⟨w.heap.size + 2, 6, none⟩ = some (.bool false) := (bk_cell A1.b2 6).trans rfl; have zf6 : w1.frozen? ⟨w.heap.size + 2, 6, none⟩ = false := bk_free A1.b2 6; have yc0 : w1.cell? ⟨w.heap.size + 1, 0, none⟩ = some (.int .i64 0) := (bk_cell A1.b1 0).trans rfl; have yf0 : w1.frozen? ⟨w.heap.size + 1, 0, none⟩ = false := bk_free A1.b1 0; have yc1 : w1.cell? ⟨w.heap.size + 1, 1, none⟩ = some (.int .i64 0) := (bk_cell A1.b1 1).trans rfl; have yf1 : w1.frozen? ⟨w.heap.size + 1, 1, none⟩ = false := bk_free A1.b1 1; have yc2 : w1.cell? ⟨w.heap.size + 1, 2, none⟩ = some (.int .i64 0) := (bk_cell A1.b1 2).trans rfl; have yf2 : w1.frozen? ⟨w.heap.size + 1, 2, none⟩ = false := bk_free A1.b1 2; have yc3 : w1.cell? ⟨w.heap.size + 1, 3, none⟩ = some (.slice none 0 0) := (bk_cell A1.b1 3).trans rfl; have yf3 : w1.frozen? ⟨w.heap.size + 1, 3, none⟩ = false := bk_free A1.b1 3; have yc4 : w1.cell? ⟨w.heap.size + 1, 4, none⟩ = some (.bool false) := (bk_cell A1.b1 4).trans rfl; have yf4 : w1.frozen? ⟨w.heap.size + 1, 4, none⟩ = false := bk_free A1.b1 4; have yc5 : w1.cell? ⟨w.heap.size + 1, 5, none⟩ = some (.bool false) := (bk_cell A1.b1 5).trans rfl; have yf5 : w1.frozen? ⟨w.heap.size + 1, 5, none⟩ = false := bk_free A1.b1 5; have yc6 : w1.cell? ⟨w.heap.size + 1, 6, none⟩ = some (.bool false) := (bk_cell A1.b1 6).trans rfl; have yf6 : w1.frozen? ⟨w.heap.size + 1, 6, none⟩ = false := bk_free A1.b1 6; have hsz : w.heap.size + 2 < w1.heap.size := A1.lt; have H1 : Hid _ := And.intro A1 (And.intro l1 c1); clear A1 l1 c1)
  have cS : Chg (fun t => t = w.heap.size + 2 ∨ t = w.heap.size + 1) w1 (putO ((w1.setCell ⟨w.heap.size + 2, 0, none⟩ (.int .i64 cd)).setCell ⟨w.heap.size + 2, 1, none⟩ (.int .i64 st)) (w.heap.size + 1) cd st 0 (.slice none 0 0) false false false) :=
    (((chg_of_eq w1).set' (w.heap.size + 2) 0 _ (Or.inl rfl)).set' (w.heap.size + 2) 1 _ (Or.inl rfl)).trans ((putO_chg _ _ _ _ _ _ _ _ _).mono' (fun k _ e => Or.inr e))
  exact bodyPost_ret (v := .agg (so7s cd st 0 (.slice none 0 0) false false false)) (results_cell_row (t := 43) rfl _ _ (w.heap.size + 1) _ (fr := (0, 0)) _ rfl (putO_blk ((bk_other (by omega) 1 _).trans ((bk_other (by omega) 0 _).trans H1.out.1.b1)) cd st 0 (.slice none 0 0) false false false) Tryd.underlying43 rfl infoSObs) rfl ⟨rfl, H1.out.2.1.chg cS (fun t ht => ⟨H0.out.2.2.1 t (by omega), by omega⟩), ((Chg.of_below (w3_below w 2 a b _ fb)).trans H1.out.2.2).newS cS (fun t ht => by omega)⟩
set_option maxRecDepth 20000 in
set_option maxHeartbeats 4000000 in
theorem sop_grant (g base : Nat) (D : Nat → Prop) (a b : Int) (u : Value) (fb : Bool) (w : World) (cd st : Int) (M1 : SS) (est : (M1.st : Int) = st) (hgl : g < w.heap.size) (hlt : ∀ t, D t → t < w.heap.size)
    (C : Calls Tryd.prog 32 #[.pointer (some ⟨g, 0, none⟩), .int .i64 b] (W3 w 3 a b u fb) fun e w' => e = .returned (.int .i64 cd) ∧ LeftS g base D (w.heap.size + 3) w' M1 (.slice none 0 0) ∧ Chg D (W3 w 3 a b u fb) w') :
    Calls Tryd.prog 18 #[.pointer (some ⟨g, 0, none⟩), .agg #[.int .i64 3, .int .i64 a, .int .i64 b, u, .bool fb]] w fun e w' => e = .returned (.agg (so7s cd st 0 (.slice none 0 0) false false false)) ∧ LeftS g base D (w.heap.size + 3) w' M1 (.slice none 0 0) ∧ Chg D w w' := by
  have A0 := room_new w 3 a b u fb
  have hND : ∀ k, w.heap.size ≤ k → ¬ D k := fun k hk h => by have := hlt k h; omega
  have H0 : Hid _ := And.intro C (And.intro A0 (And.intro hND est))
  clear C A0 hND hlt est
  go_enter Tryd.func18, Tryd.ntmps18
  go_wp2_with (go_at_call 32; refine H0.out.1.mono ?_; rintro e w1 ⟨rfl, l1, c1⟩; have A1 := H0.out.2.1.chg c1 H0.out.2.2.1; have d1 := l1.c1; rw [H0.out.2.2.2] at d1; have zc0 : w1.cell? ⟨w.heap.size + 2, 0, none⟩ = some (.int .i64 1) := (bk_cell A1.b2 0).trans rfl; have zf0 : w1.frozen? ⟨w.heap.size + 2, 0, none⟩ = false := bk_free A1.b2 0; have zc1 : w1.cell? ⟨w.heap.size + 2, 1, none⟩ = some (.int .i64 0) := (bk_cell A1.b2 1).trans rfl; have zf1 : w1.frozen? ⟨w.heap.size + 2, 1, none⟩ = false := bk_free A1.b2 1; have zc2 : w1.cell? ⟨w.heap.size + 2, 2, none⟩ = some (.int .i64 0) := (bk_cell A1.b2 2).trans rfl; have zf2 : w1.frozen? ⟨w.heap.size + 2, 2, none⟩ = false := bk_free A1.b2 2; have zc3 : w1.cell? ⟨w.heap.size + 2, 3, none⟩ = some (.slice none 0 0) := (bk_cell A1.b2 3).trans rfl; have zf3 : w1.frozen? ⟨w.heap.size + 2, 3, none⟩ = false := bk_free A1.b2 3; have zc4 : w1.cell? ⟨w.heap.size + 2, 4, none⟩ = some (.bool false) := (bk_cell A1.b2 4).trans rfl; have zf4 : w1.frozen? ⟨w.heap.size + 2, 4, none⟩ = false := bk_free A1.b2 4; have zc5 : w1.cell? ⟨w.heap.size + 2, 5, none⟩ = some (.bool false) := (bk_cell A1.b2 5).trans rfl; have zf5 : w1.frozen? ⟨w.heap.size + 2, 5, none⟩ = false := bk_free A1.b2 5; have zc6 : w1.cell? ⟨w.heap.size + 2, 6, none⟩ = some (.bool false) := (bk_cell A1.b2 6).trans rfl; have zf6 : w1.frozen? ⟨w.heap.size + 2, 6, none⟩ = false := bk_free A1.b2 6; have yc0 : w1.cell? ⟨w.heap.size + 1, 0, none⟩ = some (.int .i64 0) := (bk_cell A1.b1 0).trans rfl; have yf0 : w1.frozen? ⟨w.heap.size + 1, 0, none⟩ = false := bk_free A1.b1 0; have yc1 : w1.cell? ⟨w.heap.size + 1, 1, none⟩ = some (.int .i64 0) := (bk_cell A1.b1 1).trans rfl; have yf1 : w1.frozen? ⟨w.heap.size + 1, 1, none⟩ = false := bk_free A1.b1 1; have yc2 : w1.cell? ⟨w.heap.size + 1, 2, none⟩ = some (.int .i64 0) := (bk_cell A1.b1 2).trans rfl; have yf2 : w1.frozen? ⟨w.heap.size + 1, 2, none⟩ = false := bk_free A1.b1 2; have yc3 : w1.cell? ⟨w.heap.size + 1, 3, none⟩ = some (.slice none 0 0) := (bk_cell A1.b1 3).trans rfl; have yf3 : w1.frozen? ⟨w.heap.size + 1, 3, none⟩ = false := bk_free A1.b1 3; have yc4 : w1.cell? ⟨w.heap.size + 1, 4, none⟩ = some (.bool false) := (bk_cell A1.b1 4).trans rfl; have yf4 : w1.frozen? ⟨w.heap.size + 1, 4, none⟩ = false := bk_free A1.b1 4; have yc5 : w1.cell? ⟨w.heap.size + 1, 5, none⟩ = some (.bool false) := (bk_cell A1.b1 5).trans rfl; have yf5 : w1.frozen? ⟨w.heap.size + 1, 5, none⟩ = false := bk_free A1.b1 5; have yc6 : w1.cell? ⟨w.heap.size + 1, 6, none⟩ = some (.bool false) := (bk_cell A1.b1 6).trans rfl; have yf6 : w1.frozen? ⟨w.heap.size + 1, 6, none⟩ = false := bk_free A1.b1 6; have hsz : w.heap.size + 2 < w1.heap.size := A1.lt; have H1 : Hid _ := And.intro A1 (And.intro l1 c1); clear A1 l1 c1)
  have cS : Chg (fun t => t = w.heap.size + 2 ∨ t = w.heap.size + 1) w1 (putO ((w1.setCell ⟨w.heap.size + 2, 0, none⟩ (.int .i64 cd)).setCell ⟨w.heap.size + 2, 1, none⟩ (.int .i64 st)) (w.heap.size + 1) cd st 0 (.slice none 0 0) false false false) :=
    (((chg_of_eq w1).set' (w.heap.size + 2) 0 _ (Or.inl rfl)).set' (w.heap.size + 2) 1 _ (Or.inl rfl)).trans ((putO_chg _ _ _ _ _ _ _ _ _).mono' (fun k _ e => Or.inr e))
  exact bodyPost_ret (v := .agg (so7s cd st 0 (.slice none 0 0) false false false)) (results_cell_row (t := 43) rfl _ _ (w.heap.size + 1) _ (fr := (0, 0)) _ rfl (putO_blk ((bk_other (by omega) 1 _).trans ((bk_other (by omega) 0 _).trans H1.out.1.b1)) cd st 0 (.slice none 0 0) false false false) Tryd.underlying43 rfl infoSObs) rfl ⟨rfl, H1.out.2.1.chg cS (fun t ht => ⟨H0.out.2.2.1 t (by omega), by omega⟩), ((Chg.of_below (w3_below w 3 a b _ fb)).trans H1.out.2.2).newS cS (fun t ht => by omega)⟩
set_option maxRecDepth 20000 in
set_option maxHeartbeats 4000000 in
theorem sop_ack (g base : Nat) (D : Nat → Prop) (a b : Int) (u : Value) (fb : Bool) (w : World) (cd st : Int) (M1 : SS) (est : (M1.st : Int) = st) (hgl : g < w.heap.size) (hlt : ∀ t, D t → t < w.heap.size)
    (C : Calls Tryd.prog 34 #[.pointer (some ⟨g, 0, none⟩), .int .i64 a, .int .i64 b, .bool fb, .int .u8 2] (W3 w 5 a b u fb) fun e w' => e = .returned (.int .i64 cd) ∧ LeftS g base D (w.heap.size + 3) w' M1 (.slice none 0 0) ∧ Chg D (W3 w 5 a b u fb) w') :
    Calls Tryd.prog 18 #[.pointer (some ⟨g, 0, none⟩), .agg #[.int .i64 5, .int .i64 a, .int .i64 b, u, .bool fb]] w fun e w' => e = .returned (.agg (so7s cd st 0 (.slice none 0 0) false false false)) ∧ LeftS g base D (w.heap.size + 3) w' M1 (.slice none 0 0) ∧ Chg D w w' := by
  have A0 := room_new w 5 a b u fb
  have hND : ∀ k, w.heap.size ≤ k → ¬ D k := fun k hk h => by have := hlt k h; omega
  have H0 : Hid _ := And.intro C (And.intro A0 (And.intro hND est))
  clear C A0 hND hlt est
  go_enter Tryd.func18, Tryd.ntmps18
  go_wp2_with (go_at_call 34; refine H0.out.1.mono ?_; rintro e w1 ⟨rfl, l1, c1⟩; have A1 := H0.out.2.1.chg c1 H0.out.2.2.1; have d1 := l1.c1; rw [H0.out.2.2.2] at d1; have zc0 : w1.cell? ⟨w.heap.size + 2, 0, none⟩ = some (.int .i64 1) := (bk_cell A1.b2 0).trans rfl; have zf0 : w1.frozen? ⟨w.heap.size + 2, 0, none⟩ = false := bk_free A1.b2 0; have zc1 : w1.cell? ⟨w.heap.size + 2, 1, none⟩ = some (.int .i64 0) := (bk_cell A1.b2 1).trans rfl; have zf1 : w1.frozen? ⟨w.heap.size + 2, 1, none⟩ = false := bk_free A1.b2 1; have zc2 : w1.cell? ⟨w.heap.size + 2, 2, none⟩ = some (.int .i64 0) := (bk_cell A1.b2 2).trans rfl; have zf2 : w1.frozen? ⟨w.heap.size + 2, 2, none⟩ = false := bk_free A1.b2 2; have zc3 : w1.cell? ⟨w.heap.size + 2, 3, none⟩ = some (.slice none 0 0) := (bk_cell A1.b2 3).trans rfl; have zf3 : w1.frozen? ⟨w.heap.size + 2, 3, none⟩ = false := bk_free A1.b2 3; have zc4 : w1.cell? ⟨w.heap.size + 2, 4, none⟩ = some (.bool false) := (bk_cell A1.b2 4).trans rfl; have zf4 : w1.frozen? ⟨w.heap.size + 2, 4, none⟩ = false := bk_free A1.b2 4; have zc5 : w1.cell? ⟨w.heap.size + 2, 5, none⟩ = some (.bool false) := (bk_cell A1.b2 5).trans rfl; have zf5 : w1.frozen? ⟨w.heap.size + 2, 5, none⟩ = false := bk_free A1.b2 5; have zc6 : w1.cell? ⟨w.heap.size + 2, 6, none⟩ = some (.bool false) := (bk_cell A1.b2 6).trans rfl; have zf6 : w1.frozen? ⟨w.heap.size + 2, 6, none⟩ = false := bk_free A1.b2 6; have yc0 : w1.cell? ⟨w.heap.size + 1, 0, none⟩ = some (.int .i64 0) := (bk_cell A1.b1 0).trans rfl; have yf0 : w1.frozen? ⟨w.heap.size + 1, 0, none⟩ = false := bk_free A1.b1 0; have yc1 : w1.cell? ⟨w.heap.size + 1, 1, none⟩ = some (.int .i64 0) := (bk_cell A1.b1 1).trans rfl; have yf1 : w1.frozen? ⟨w.heap.size + 1, 1, none⟩ = false := bk_free A1.b1 1; have yc2 : w1.cell? ⟨w.heap.size + 1, 2, none⟩ = some (.int .i64 0) := (bk_cell A1.b1 2).trans rfl; have yf2 : w1.frozen? ⟨w.heap.size + 1, 2, none⟩ = false := bk_free A1.b1 2; have yc3 : w1.cell? ⟨w.heap.size + 1, 3, none⟩ = some (.slice none 0 0) := (bk_cell A1.b1 3).trans rfl; have yf3 : w1.frozen? ⟨w.heap.size + 1, 3, none⟩ = false := bk_free A1.b1 3; have yc4 : w1.cell? ⟨w.heap.size + 1, 4, none⟩ = some (.bool false) := (bk_cell A1.b1 4).trans rfl; have yf4 : w1.frozen? ⟨w.heap.size + 1, 4, none⟩ = false := bk_free A1.b1 4; have yc5 : w1.cell? ⟨w.heap.size + 1, 5, none⟩ = some (.bool false) := (bk_cell A1.b1 5).trans rfl; have yf5 : w1.frozen? ⟨w.heap.size + 1, 5, none⟩ = false := bk_free A1.b1 5; have yc6 : w1.cell? ⟨w.heap.size + 1, 6, none⟩ = some (.bool false) := (bk_cell A1.b1 6).trans rfl; have yf6 : w1.frozen? ⟨w.heap.size + 1, 6, none⟩ = false := bk_free A1.b1 6; have hsz : w.heap.size + 2 < w1.heap.size := A1.lt; have H1 : Hid _ := And.intro A1 (And.intro l1 c1); clear A1 l1 c1)
  have cS : Chg (fun t => t = w.heap.size + 2 ∨ t = w.heap.size + 1) w1 (putO ((w1.setCell ⟨w.heap.size + 2, 0, none⟩ (.int .i64 cd)).setCell ⟨w.heap.size + 2, 1, none⟩ (.int .i64 st)) (w.heap.size + 1) cd st 0 (.slice none 0 0) false false false) :=
    (((chg_of_eq w1).set' (w.heap.size + 2) 0 _ (Or.inl rfl)).set' (w.heap.size + 2) 1 _ (Or.inl rfl)).trans ((putO_chg _ _ _ _ _ _ _ _ _).mono' (fun k _ e => Or.inr e))
  exact bodyPost_ret (v := .agg (so7s cd st 0 (.slice none 0 0) false false false)) (results_cell_row (t := 43) rfl _ _ (w.heap.size + 1) _ (fr := (0, 0)) _ rfl (putO_blk ((bk_other (by omega) 1 _).trans ((bk_other (by omega) 0 _).trans H1.out.1.b1)) cd st 0 (.slice none 0 0) false false false) Tryd.underlying43 rfl infoSObs) rfl ⟨rfl, H1.out.2.1.chg cS (fun t ht => ⟨H0.out.2.2.1 t (by omega), by omega⟩), ((Chg.of_below (w3_below w 5 a b _ fb)).trans H1.out.2.2).newS cS (fun t ht => by omega)⟩
set_option maxRecDepth 20000 in
set_option maxHeartbeats 4000000 in
theorem sop_lost (g base : Nat) (D : Nat → Prop) (a b : Int) (u : Value) (fb : Bool) (w : World) (cd st : Int) (M1 : SS) (est : (M1.st : Int) = st) (hgl : g < w.heap.size) (hlt : ∀ t, D t → t < w.heap.size)
    (C : Calls Tryd.prog 34 #[.pointer (some ⟨g, 0, none⟩), .int .i64 a, .int .i64 b, .bool fb, .int .u8 3] (W3 w 6 a b u fb) fun e w' => e = .returned (.int .i64 cd) ∧ LeftS g base D (w.heap.size + 3) w' M1 (.slice none 0 0) ∧ Chg D (W3 w 6 a b u fb) w') :
    Calls Tryd.prog 18 #[.pointer (some ⟨g, 0, none⟩), .agg #[.int .i64 6, .int .i64 a, .int .i64 b, u, .bool fb]] w fun e w' => e = .returned (.agg (so7s cd st 0 (.slice none 0 0) false false false)) ∧ LeftS g base D (w.heap.size + 3) w' M1 (.slice none 0 0) ∧ Chg D w w' := by
  have A0 := room_new w 6 a b u fb
  have hND : ∀ k, w.heap.size ≤ k → ¬ D k := fun k hk h => by have := hlt k h; omega
  have H0 : Hid _ := And.intro C (And.intro A0 (And.intro hND est))
  clear C A0 hND hlt est
  go_enter Tryd.func18, Tryd.ntmps18
  go_wp2_with (go_at_call 34; refine H0.out.1.mono ?_; rintro e w1 ⟨rfl, l1, c1⟩; have A1 := H0.out.2.1.chg c1 H0.out.2.2.1; have d1 := l1.c1; rw [H0.out.2.2.2] at d1; have zc0 : w1.cell? ⟨w.heap.size + 2, 0, none⟩ = some (.int .i64 1) := (bk_cell A1.b2 0).trans rfl; have zf0 : w1.frozen? ⟨w.heap.size + 2, 0, none⟩ = false := bk_free A1.b2 0; have zc1 : w1.cell? ⟨w.heap.size + 2, 1, none⟩ = some (.int .i64 0) := (bk_cell A1.b2 1).trans rfl; have zf1 : w1.frozen? ⟨w.heap.size + 2, 1, none⟩ = false := bk_free A1.b2 1; have zc2 : w1.cell? ⟨w.heap.size + 2, 2, none⟩ = some (.int .i64 0) := (bk_cell A1.b2 2).trans rfl; have zf2 : w1.frozen? ⟨w.heap.size + 2, 2, none⟩ = false := bk_free A1.b2 2; have zc3 : w1.cell? ⟨w.heap.size + 2, 3, none⟩ = some (.slice none 0 0) := (bk_cell A1.b2 3).trans rfl; have zf3 : w1.frozen? ⟨w.heap.size + 2, 3, none⟩ = false := bk_free A1.b2 3; have zc4 : w1.cell? ⟨w.heap.size + 2, 4, none⟩ = some (.bool false) := (bk_cell A1.b2 4).trans rfl; have zf4 : w1.frozen? ⟨w.heap.size + 2, 4, none⟩ = false := bk_free A1.b2 4; have zc5 : w1.cell? ⟨w.heap.size + 2, 5, none⟩ = some (.bool false) := (bk_cell A1.b2 5).trans rfl; have zf5 : w1.frozen? ⟨w.heap.size + 2, 5, none⟩ = false := bk_free A1.b2 5; have zc6 : w1.cell? ⟨w.heap.size + 2, 6, none⟩ = some (.bool false) := (bk_cell A1.b2 6).trans rfl; have zf6 : w1.frozen? ⟨w.heap.size + 2, 6, none⟩ = false := bk_free A1.b2 6; have yc0 : w1.cell? ⟨w.heap.size + 1, 0, none⟩ = some (.int .i64 0) := (bk_cell A1.b1 0).trans rfl; have yf0 : w1.frozen? ⟨w.heap.size + 1, 0, none⟩ = false := bk_free A1.b1 0; have yc1 : w1.cell? ⟨w.heap.size + 1, 1, none⟩ = some (.int .i64 0) := (bk_cell A1.b1 1).trans rfl; have yf1 : w1.frozen? ⟨w.heap.size + 1, 1, none⟩ = false := bk_free A1.b1 1; have yc2 : w1.cell? ⟨w.heap.size + 1, 2, none⟩ = some (.int .i64 0) := (bk_cell A1.b1 2).trans rfl; have yf2 : w1.frozen? ⟨w.heap.size + 1, 2, none⟩ = false := bk_free A1.b1 2; have yc3 : w1.cell? ⟨w.heap.size + 1, 3, none⟩ = some (.slice none 0 0) := (bk_cell A1.b1 3).trans rfl; have yf3 : w1.frozen? ⟨w.heap.size + 1, 3, none⟩ = false := bk_free A1.b1 3; have yc4 : w1.cell? ⟨w.heap.size + 1, 4, none⟩ = some (.bool false) := (bk_cell A1.b1 4).trans rfl; have yf4 : w1.frozen? ⟨w.heap.size + 1, 4, none⟩ = false := bk_free A1.b1 4; have yc5 : w1.cell? ⟨w.heap.size + 1, 5, none⟩ = some (.bool false) := (bk_cell A1.b1 5).trans rfl; have yf5 : w1.frozen? ⟨w.heap.size + 1, 5, none⟩ = false := bk_free A1.b1 5; have yc6 : w1.cell? ⟨w.heap.size + 1, 6, none⟩ = some (.bool false) := (bk_cell A1.b1 6).trans rfl; have yf6 : w1.frozen? ⟨w.heap.size + 1, 6, none⟩ = false := bk_free A1.b1 6; have hsz : w.heap.size + 2 < w1.heap.size := A1.lt; have H1 : Hid _ := And.intro A1 (And.intro l1 c1); clear A1 l1 c1)
  have cS : Chg (fun t => t = w.heap.size + 2 ∨ t = w.heap.size + 1) w1 (putO ((w1.setCell ⟨w.heap.size + 2, 0, none⟩ (.int .i64 cd)).setCell ⟨w.heap.size + 2, 1, none⟩ (.int .i64 st)) (w.heap.size + 1) cd st 0 (.slice none 0 0) false false false) :=
    (((chg_of_eq w1).set' (w.heap.size + 2) 0 _ (Or.inl rfl)).set' (w.heap.size + 2) 1 _ (Or.inl rfl)).trans ((putO_chg _ _ _ _ _ _ _ _ _).mono' (fun k _ e => Or.inr e))
  exact bodyPost_ret (v := .agg (so7s cd st 0 (.slice none 0 0) false false false)) (results_cell_row (t := 43) rfl _ _ (w.heap.size + 1) _ (fr := (0, 0)) _ rfl (putO_blk ((bk_other (by omega) 1 _).trans ((bk_other (by omega) 0 _).trans H1.out.1.b1)) cd st 0 (.slice none 0 0) false false false) Tryd.underlying43 rfl infoSObs) rfl ⟨rfl, H1.out.2.1.chg cS (fun t ht => ⟨H0.out.2.2.1 t (by omega), by omega⟩), ((Chg.of_below (w3_below w 6 a b _ fb)).trans H1.out.2.2).newS cS (fun t ht => by omega)⟩
set_option maxRecDepth 20000 in
set_option maxHeartbeats 4000000 in
theorem sop_racked (g base : Nat) (D : Nat → Prop) (a b : Int) (u : Value) (fb : Bool) (w : World) (cd st : Int) (M1 : SS) (est : (M1.st : Int) = st) (hgl : g < w.heap.size) (hlt : ∀ t, D t → t < w.heap.size)
    (C : Calls Tryd.prog 36 #[.pointer (some ⟨g, 0, none⟩)] (W3 w 8 a b u fb) fun e w' => e = .returned (.int .i64 cd) ∧ LeftS g base D (w.heap.size + 3) w' M1 (.slice none 0 0) ∧ Chg D (W3 w 8 a b u fb) w') :
    Calls Tryd.prog 18 #[.pointer (some ⟨g, 0, none⟩), .agg #[.int .i64 8, .int .i64 a, .int .i64 b, u, .bool fb]] w fun e w' => e = .returned (.agg (so7s cd st 0 (.slice none 0 0) false false false)) ∧ LeftS g base D (w.heap.size + 3) w' M1 (.slice none 0 0) ∧ Chg D w w' := by
  have A0 := room_new w 8 a b u fb
  have hND : ∀ k, w.heap.size ≤ k → ¬ D k := fun k hk h => by have := hlt k h; omega
  have H0 : Hid _ := And.intro C (And.intro A0 (And.intro hND est))
  clear C A0 hND hlt est
  go_enter Tryd.func18, Tryd.ntmps18
  go_wp2_with (go_at_call 36; refine H0.out.1.mono ?_; rintro e w1 ⟨rfl, l1, c1⟩; have A1 := H0.out.2.1.chg c1 H0.out.2.2.1; have d1 := l1.c1; rw [H0.out.2.2.2] at d1; have zc0 : w1.cell? ⟨w.heap.size + 2, 0, none⟩ = some (.int .i64 1) := (bk_cell A1.b2 0).trans rfl; have zf0 : w1.frozen? ⟨w.heap.size + 2, 0, none⟩ = false := bk_free A1.b2 0; have zc1 : w1.cell? ⟨w.heap.size + 2, 1, none⟩ = some (.int .i64 0) := (bk_cell A1.b2 1).trans rfl; have zf1 : w1.frozen? ⟨w.heap.size + 2, 1, none⟩ = false := bk_free A1.b2 1; have zc2 : w1.cell? ⟨w.heap.size + 2, 2, none⟩ = some (.int .i64 0) := (bk_cell A1.b2 2).trans rfl; have zf2 : w1.frozen? ⟨w.heap.size + 2, 2, none⟩ = false := bk_free A1.b2 2; have zc3 : w1.cell? ⟨w.heap.size + 2, 3, none⟩ = some (.slice none 0 0) := (bk_cell A1.b2 3).trans rfl; have zf3 : w1.frozen? ⟨w.heap.size + 2, 3, none⟩ = false := bk_free A1.b2 3; have zc4 : w1.cell? ⟨w.heap.size + 2, 4, none⟩ = some (.bool false) := (bk_cell A1.b2 4).trans rfl; have zf4 : w1.frozen? ⟨w.heap.size + 2, 4, none⟩ = false := bk_free A1.b2 4; have zc5 : w1.cell? ⟨w.heap.size + 2, 5, none⟩ = some (.bool false) := (bk_cell A1.b2 5).trans rfl; have zf5 : w1.frozen? ⟨w.heap.size + 2, 5, none⟩ = false := bk_free A1.b2 5; have zc6 : w1.cell? ⟨w.heap.size + 2, 6, none⟩ = some (.bool false) := (bk_cell A1.b2 6).trans rfl; have zf6 : w1.frozen? ⟨w.heap.size + 2, 6, none⟩ = false := bk_free A1.b2 6; have yc0 : w1.cell? ⟨w.heap.size + 1, 0, none⟩ = some (.int .i64 0) := (bk_cell A1.b1 0).trans rfl; have yf0 : w1.frozen? ⟨w.heap.size + 1, 0, none⟩ = false := bk_free A1.b1 0; have yc1 : w1.cell? ⟨w.heap.size + 1, 1, none⟩ = some (.int .i64 0) := (bk_cell A1.b1 1).trans rfl; have yf1 : w1.frozen? ⟨w.heap.size + 1, 1, none⟩ = false := bk_free A1.b1 1; have yc2 : w1.cell? ⟨w.heap.size + 1, 2, none⟩ = some (.int .i64 0) := (bk_cell A1.b1 2).trans rfl; have yf2 : w1.frozen? ⟨w.heap.size + 1, 2, none⟩ = false := bk_free A1.b1 2; have yc3 : w1.cell? ⟨w.heap.size + 1, 3, none⟩ = some (.slice none 0 0) := (bk_cell A1.b1 3).trans rfl; have yf3 : w1.frozen? ⟨w.heap.size + 1, 3, none⟩ = false := bk_free A1.b1 3; have yc4 : w1.cell? ⟨w.heap.size + 1, 4, none⟩ = some (.bool false) := (bk_cell A1.b1 4).trans rfl; have yf4 : w1.frozen? ⟨w.heap.size + 1, 4, none⟩ = false := bk_free A1.b1 4; have yc5 : w1.cell? ⟨w.heap.size + 1, 5, none⟩ = some (.bool false) := (bk_cell A1.b1 5).trans rfl; have yf5 : w1.frozen? ⟨w.heap.size + 1, 5, none⟩ = false := bk_free A1.b1 5; have yc6 : w1.cell? ⟨w.heap.size + 1, 6, none⟩ = some (.bool false) := (bk_cell A1.b1 6).trans rfl; have yf6 : w1.frozen? ⟨w.heap.size + 1, 6, none⟩ = false := bk_free A1.b1 6; have hsz : w.heap.size + 2 < w1.heap.size := A1.lt; have H1 : Hid _ := And.intro A1 (And.intro l1 c1); clear A1 l1 c1)
  have cS : Chg (fun t => t = w.heap.size + 2 ∨ t = w.heap.size + 1) w1 (putO ((w1.setCell ⟨w.heap.size + 2, 0, none⟩ (.int .i64 cd)).setCell ⟨w.heap.size + 2, 1, none⟩ (.int .i64 st)) (w.heap.size + 1) cd st 0 (.slice none 0 0) false false false) :=
    (((chg_of_eq w1).set' (w.heap.size + 2) 0 _ (Or.inl rfl)).set' (w.heap.size + 2) 1 _ (Or.inl rfl)).trans ((putO_chg _ _ _ _ _ _ _ _ _).mono' (fun k _ e => Or.inr e))
  exact bodyPost_ret (v := .agg (so7s cd st 0 (.slice none 0 0) false false false)) (results_cell_row (t := 43) rfl _ _ (w.heap.size + 1) _ (fr := (0, 0)) _ rfl (putO_blk ((bk_other (by omega) 1 _).trans ((bk_other (by omega) 0 _).trans H1.out.1.b1)) cd st 0 (.slice none 0 0) false false false) Tryd.underlying43 rfl infoSObs) rfl ⟨rfl, H1.out.2.1.chg cS (fun t ht => ⟨H0.out.2.2.1 t (by omega), by omega⟩), ((Chg.of_below (w3_below w 8 a b _ fb)).trans H1.out.2.2).newS cS (fun t ht => by omega)⟩
end Go.Proofs.YtdkonhjbcgnfhaaDoor

namespace Go.Proofs.YtdkonhjbcgnfhaaDoor
open Go.RowKit
set_option linter.unusedVariables false
set_option linter.unusedSimpArgs false

/-- What a call leaves. -/
def LeftQ (g base : Nat) (D : Nat → Prop) (N : Nat) (w' : World) (M : SS) (r : Value) : Prop := ∃ D1, QRep w' D1 g base M ∧ (∀ t, D1 t → D t ∨ (N ≤ t ∧ t < w'.heap.size)) ∧ ∀ t, r.ownBlock = some t → ¬ D1 t
theorem LeftQ.of {g base N : Nat} {D : Nat → Prop} {w' : World} {M : SS} {r : Value} (h : QRep w' D g base M) (hr : ∀ t, r.ownBlock = some t → ¬ D t) : LeftQ g base D N w' M r := ⟨D, h, fun t ht => Or.inl ht, hr⟩
theorem LeftQ.of0 {g base N c : Nat} {D : Nat → Prop} {w' : World} {M : SS} (h : QRep w' D g base M) : LeftQ g base D N w' M (.slice none 0 c) := ⟨D, h, fun t ht => Or.inl ht, fun t ht => nomatch ht⟩
theorem LeftQ.c0 {g base N : Nat} {D : Nat → Prop} {w' : World} {M : SS} {r : Value} (h : LeftQ g base D N w' M r) : w'.cell? ⟨g, 0, none⟩ = some (.int .i64 (M.st : Int)) := by
  obtain ⟨D1, ⟨vd, vh, hb, hA⟩, _⟩ := h
  exact (bk_cell hb 0).trans rfl
theorem LeftQ.chg {g base N : Nat} {D S : Nat → Prop} {w' w2 : World} {M : SS} {r : Value} (h : LeftQ g base D N w' M r) (C : Chg S w' w2) (hs : ∀ t, S t → ¬ D t ∧ t < N) : LeftQ g base D N w2 M r := by
  obtain ⟨D1, h1, h2, h3⟩ := h
  exact ⟨D1, h1.chgS C (fun t ht q => (h2 t ht).elim (fun z => (hs t q).1 z) (fun z => by have := (hs t q).2; omega)), fun t ht => (h2 t ht).imp id (fun z => ⟨z.1, Nat.lt_of_lt_of_le z.2 C.size⟩), h3⟩
theorem LeftQ.mono {g base N N' : Nat} {D : Nat → Prop} {w' : World} {M : SS} {r : Value} (h : LeftQ g base D N w' M r) (hN : N' ≤ N) : LeftQ g base D N' w' M r := by
  obtain ⟨D1, h1, h2, h3⟩ := h
  exact ⟨D1, h1, fun t ht => (h2 t ht).imp id (fun z => ⟨by omega, z.2⟩), h3⟩
abbrev WQ (w : World) (k a b : Int) (u : Value) (fb : Bool) : World := ((w.alloc (opB k a b u fb)).alloc so0).alloc so0
theorem wq_below (w : World) (k a b : Int) (u : Value) (fb : Bool) : Below w.heap.size w (WQ w k a b u fb) := (((Below.refl _ _).alloc (Nat.le_refl _) _).alloc (by simp) _).alloc (by simp <;> omega) _
theorem wq_size (w : World) (k a b : Int) (u : Value) (fb : Bool) : (WQ w k a b u fb).heap.size = w.heap.size + 3 := by simp
theorem roomQ_new (w : World) (k a b : Int) (u : Value) (fb : Bool) : RoomS w (WQ w k a b u fb) (so7c 0 0 (.slice none 0 0) false false false) ∧ (WQ w k a b u fb).heap[w.heap.size]? = some (opB k a b u fb) := by
  obtain ⟨h0, h1, h2⟩ := bk_new3 w (opB k a b u fb) so0 so0
  exact ⟨⟨h1, h2⟩, h0⟩
/-- Behind the switch. -/
def MidQ (g base : Nat) (D : Nat → Prop) (w wx : World) (S : SS × SSendObs) : Prop := ∃ rv, RoomS w wx (so7c S.2.f0 S.2.f2 rv S.2.f4 S.2.f5 S.2.f6) ∧ LeftQ g base D (w.heap.size + 3) wx S.1 rv ∧ Chg D w wx ∧ wx.ownsRow (w.heap.size + 3) 5 1 rv S.2.f3.length (S.2.f3.map (Value.int .u8))
/-- A code put into the observation. -/
theorem midCode {g base : Nat} {D : Nat → Prop} {w w1 : World} {M : SS} (c st : Int) (hND : ∀ k, w.heap.size ≤ k → ¬ D k) (A1 : RoomS w w1 (so7c 0 0 (.slice none 0 0) false false false)) (l1 : LeftQ g base D (w.heap.size + 3) w1 M (.slice none 0 0)) (c1 : Chg D w w1) : MidQ g base D w (w1.setCell ⟨w.heap.size + 2, 0, none⟩ (.int .i64 c)) (M, ⟨c, st, 0, [], false, false, false⟩) := by
  have cS : Chg (fun t => t = w.heap.size + 2) w1 (w1.setCell ⟨w.heap.size + 2, 0, none⟩ (.int .i64 c)) := (chg_of_eq w1).set' (w.heap.size + 2) 0 _ rfl
  exact ⟨.slice none 0 0, ⟨(bk_other (by omega) 0 _).trans A1.b1, bk_set A1.b2 0 _⟩, l1.chg cS (fun t ht => ⟨hND t (by omega), by omega⟩), c1.new cS (by omega), World.ownsRow_nil _ _ _ _⟩
theorem mkMid {g base : Nat} {D : Nat → Prop} {w wx : World} {M : SS} {c off : Int} (st : Int) (A : RoomS w wx (so7c c off (.slice none 0 0) false false false)) (r : QRep wx D g base M) (ch : Chg D w wx) : MidQ g base D w wx (M, ⟨c, st, off, [], false, false, false⟩) :=
  ⟨.slice none 0 0, A, LeftQ.of0 r, ch, World.ownsRow_nil _ _ _ _⟩
theorem RoomS.set2 {w wx : World} {obs : Array Value} (h : RoomS w wx obs) (i : Nat) (u : Value) : RoomS w (wx.setCell ⟨w.heap.size + 2, i, none⟩ u) (obs.setIfInBounds i u) := ⟨(bk_other (by omega) i u).trans h.b1, bk_set h.b2 i u⟩
theorem RoomS.drew1 {w wx : World} {obs : Array Value} (h : RoomS w wx obs) : RoomS w wx.drew obs := ⟨h.b1, h.b2⟩
theorem RoomS.setG {w wx : World} {obs : Array Value} {g : Nat} (h : RoomS w wx obs) (hg : g < w.heap.size) (i : Nat) (u : Value) : RoomS w (wx.setCell ⟨g, i, none⟩ u) obs := ⟨(bk_other (by omega) i u).trans h.b1, (bk_other (by omega) i u).trans h.b2⟩
theorem QRep.set2 {g base : Nat} {D : Nat → Prop} {w wx : World} {M : SS} (h : QRep wx D g base M) (hND : ∀ k, w.heap.size ≤ k → ¬ D k) (i : Nat) (u : Value) : QRep (wx.setCell ⟨w.heap.size + 2, i, none⟩ u) D g base M :=
  h.chgS (S := fun t => t = w.heap.size + 2) ((chg_of_eq wx).set' (w.heap.size + 2) i _ rfl) (fun t ht e => hND t (by have e : t = w.heap.size + 2 := e; omega) ht)
theorem Chg.set2 {D : Nat → Prop} {w wx : World} (h : Chg D w wx) (i : Nat) (u : Value) : Chg D w (wx.setCell ⟨w.heap.size + 2, i, none⟩ u) := Chg.new (k := w.heap.size + 2) h ((chg_of_eq wx).set' (w.heap.size + 2) i u rfl) (by omega)
theorem QRep.setCr {w : World} {D : Nat → Prop} {g base : Nat} {m : SS} (h : QRep w D g base m) (x : Int) : QRep (w.setCell ⟨g, 1, none⟩ (.int .i64 x)) D g base { m with credit := x } := h.setC 1 _ _ rfl rfl (fun _ _ hb => bk_set hb 1 _)
theorem QRep.drew1 {w : World} {D : Nat → Prop} {g base : Nat} {m : SS} (h : QRep w D g base m) : QRep w.drew D g base m := h.belowQ (below_refl' _ _ 1)
theorem QRep.more {w : World} {D : Nat → Prop} {g base : Nat} {m : SS} (h : QRep w D g base m) : w.cell? ⟨g, 1, none⟩ = some (.int .i64 m.credit) ∧ w.frozen? ⟨g, 1, none⟩ = false := by
  obtain ⟨vd, vh, hb, hA⟩ := h
  exact ⟨(bk_cell hb 1).trans rfl, bk_free hb 1⟩
theorem pullM (g base : Nat) (m : SS) (n : Nat) (D : Nat → Prop) (w : World) (I : SI m) (hR : QRep w D g base m) (hn : n ≤ 1500) (hcr : m.credit ≤ 9223372036854775807) :
    Calls Tryd.prog 26 #[.pointer (some ⟨g, 0, none⟩), .int .i64 (n : Int)] w fun e w' => PullP g base m n D w e w' := by
  cases hp : spV m n with
  | none => exact pull_none g base m n D w I hR hn hcr hp
  | some z => exact pull_some g base m n z.1 z.2 D w I hR hn hcr hp
theorem mid0 {g base : Nat} {D : Nat → Prop} {w w1 : World} {M : SS} (st : Int) (A1 : RoomS w w1 (so7c 0 0 (.slice none 0 0) false false false)) (l1 : LeftQ g base D (w.heap.size + 3) w1 M (.slice none 0 0)) (c1 : Chg D w w1) : MidQ g base D w w1 (M, ⟨0, st, 0, [], false, false, false⟩) :=
  ⟨.slice none 0 0, A1, l1, c1, World.ownsRow_nil _ _ _ _⟩
theorem sstep_st (m : SS) (o : SSendOp) : (sstep m o).2.f1 = ((sstep m o).1.st : Int) := by
  unfold sstep
  by_cases c1 : o.f0 = 1
  · rw [if_pos c1]
  rw [if_neg c1]
  by_cases c2 : o.f0 = 2
  · rw [if_pos c2]
  rw [if_neg c2]
  by_cases c3 : o.f0 = 3
  · rw [if_pos c3]
  rw [if_neg c3]
  by_cases c4 : o.f0 = 4
  · rw [if_pos c4]
    split <;> rfl
  rw [if_neg c4]
  by_cases c5 : o.f0 = 5
  · rw [if_pos c5]
  rw [if_neg c5]
  by_cases c6 : o.f0 = 6
  · rw [if_pos c6]
  rw [if_neg c6]
  by_cases c7 : o.f0 = 7
  · rw [if_pos c7]
    split <;> rfl
  rw [if_neg c7]
  by_cases c8 : o.f0 = 8
  · rw [if_pos c8]
    split <;> rfl
  rw [if_neg c8]
set_option maxRecDepth 20000 in
set_option maxHeartbeats 8000000 in
theorem doM (g base : Nat) (m : SS) (o : SSendOp) (ua : Option Addr) (un uc : Nat) (D : Nat → Prop) (w : World) (I : SI m) (hcr : m.credit ≤ 9223372036854775807) (hR : QRep w D g base m) (hrow : Row w .u8 (.slice ua un uc) o.f3) (hl : o.f3.length ≤ 1048576) (h1' : o.f1 ≤ 9223372036854775807) (h2' : o.f2 ≤ 9223372036854775807) (hbase : base ≤ w.heap.size) :
    Calls Tryd.prog 14 #[.pointer (some ⟨g, 0, none⟩), .agg #[.int .i64 o.f0, .int .i64 o.f1, .int .i64 o.f2, .slice ua un uc, .bool o.f4]] w fun e w' => ∃ r, e = .returned (.agg (so7s (sstep m o).2.f0 (sstep m o).2.f1 (sstep m o).2.f2 r (sstep m o).2.f4 (sstep m o).2.f5 (sstep m o).2.f6)) ∧ w'.ownsRow (w.heap.size + 3) 5 1 r (sstep m o).2.f3.length ((sstep m o).2.f3.map (Value.int .u8)) ∧ LeftQ g base D (w.heap.size + 3) w' (sstep m o).1 r ∧ Chg D w w' := by
  obtain ⟨k, a, b, X, fb⟩ := o
  dsimp only at *
  obtain ⟨S, eS⟩ : ∃ S, S = sstep m ⟨k, a, b, X, fb⟩ := ⟨_, rfl⟩
  rw [← eS]
  have eSt : S.2.f1 = (S.1.st : Int) := by rw [eS]; exact sstep_st m _
  have hlt := hR.ltQ
  have hgl : g < w.heap.size := hlt g hR.dgQ
  have hND : ∀ k, w.heap.size ≤ k → ¬ D k := fun k hk h => by have := hlt k h; omega
  have HH : Hid _ := And.intro hR (And.intro hrow (And.intro I (And.intro hND (And.intro eS eSt))))
  clear hR hrow I hND hlt eS eSt
  go_enter Tryd.func14, Tryd.ntmps14
  go_upto_block 0 with fail
  go_cut [5] from 9 to 98 (fun v5 wx => v5 = .pointer (some ⟨w.heap.size + 1 + 1, 0, none⟩) ∧ MidQ g base D w wx S)
  case first =>
    have A0 := roomQ_new w k a b (.slice ua un uc) fb
    have B3 := wq_below w k a b (.slice ua un uc) fb
    have s3 := wq_size w k a b (.slice ua un uc) fb
    have R3 := HH.out.1.belowQ B3
    have row3 := HH.out.2.1.below B3
    have hsz : w.heap.size + 2 < (WQ w k a b (.slice ua un uc) fb).heap.size := by rw [s3]; omega
    have after : ∀ w1, Chg D (WQ w k a b (.slice ua un uc) fb) w1 → RoomS w w1 (so7c 0 0 (.slice none 0 0) false false false) ∧ Chg D w w1 := fun w1 c => ⟨A0.1.chg c HH.out.2.2.2.1, (Chg.of_below B3).trans c⟩
    have eS := HH.out.2.2.2.2.1
    unfold sstep at eS
    dsimp only at eS
    by_cases k1 : k = 1
    · subst k1
      rw [if_pos rfl] at eS
      have C := writeM g base m (.slice ua un uc) X D (WQ w 1 a b (.slice ua un uc) fb) HH.out.2.2.1 R3 row3 hl (by omega)
      have H0 : Hid _ := And.intro C (And.intro after eS)
      clear C A0 B3 R3 row3 after eS
      go_wp2_with (go_at_call 24; refine H0.out.1.mono ?_; rintro e w1 ⟨rfl, r1, c1⟩; obtain ⟨A1, c1'⟩ := H0.out.2.1 w1 c1; have zc0 : w1.cell? ⟨w.heap.size + 2, 0, none⟩ = some (.int .i64 0) := (bk_cell A1.b2 0).trans rfl; have zf0 : w1.frozen? ⟨w.heap.size + 2, 0, none⟩ = false := bk_free A1.b2 0; have hs1 : w.heap.size + 2 < w1.heap.size := A1.lt; have H1 : Hid _ := And.intro r1 (And.intro A1 c1'); clear r1 A1 c1 c1')
      go_meet
      refine ⟨rfl, ?_⟩
      rw [H0.out.2.2]
      exact midCode _ _ HH.out.2.2.2.1 H1.out.2.1 (show LeftQ g base D (w.heap.size + 3) w1 _ (.slice none 0 0) from ⟨_, H1.out.1, fun t ht => ht.imp id (fun z => ⟨by omega, z.2⟩), fun t ht => nomatch ht⟩) H1.out.2.2
    rw [if_neg k1] at eS
    by_cases k2 : k = 2
    · subst k2
      rw [if_pos rfl] at eS
      have C := endM g base m D (WQ w 2 a b (.slice ua un uc) fb) HH.out.2.2.1 R3
      have H0 : Hid _ := And.intro C (And.intro after eS)
      clear C A0 B3 R3 row3 after eS
      go_wp2_with (go_at_call 25; refine H0.out.1.mono ?_; rintro e w1 ⟨rfl, r1, c1⟩; obtain ⟨A1, c1'⟩ := H0.out.2.1 w1 c1; have zc0 : w1.cell? ⟨w.heap.size + 2, 0, none⟩ = some (.int .i64 0) := (bk_cell A1.b2 0).trans rfl; have zf0 : w1.frozen? ⟨w.heap.size + 2, 0, none⟩ = false := bk_free A1.b2 0; have hs1 : w.heap.size + 2 < w1.heap.size := A1.lt; have H1 : Hid _ := And.intro r1 (And.intro A1 c1'); clear r1 A1 c1 c1')
      go_meet
      refine ⟨rfl, ?_⟩
      rw [H0.out.2.2]
      exact midCode _ _ HH.out.2.2.2.1 H1.out.2.1 (LeftQ.of0 H1.out.1) H1.out.2.2
    rw [if_neg k2] at eS
    by_cases k3 : k = 3
    · subst k3
      rw [if_pos rfl] at eS
      obtain ⟨W0, eW0⟩ : ∃ x, x = ((w.alloc (.cells #[.int .i64 3, .int .i64 a, .int .i64 b, .slice ua un uc, .bool fb] 45)).alloc (.cells #[.int .i64 0, .int .i64 0, .int .i64 0, .slice none 0 0, .bool false, .bool false, .bool false] 43)).alloc (.cells #[.int .i64 0, .int .i64 0, .int .i64 0, .slice none 0 0, .bool false, .bool false, .bool false] 43) := ⟨_, rfl⟩
      have KA : RoomS w W0 (so7c 0 0 (.slice none 0 0) false false false) := by rw [eW0]; exact A0.1
      have KB : W0.heap[w.heap.size]? = some (opB 3 a b (.slice ua un uc) fb) := by rw [eW0]; exact A0.2
      have KR : QRep W0 D g base m := by rw [eW0]; exact R3
      have KC : Chg D w W0 := by rw [eW0]; exact Chg.of_below B3
      have hs0 : w.heap.size + 2 < W0.heap.size := KA.lt
      rw [← eW0]
      clear eW0 A0 B3 R3 row3 after s3 hsz
      have bx0 : W0.cell? ⟨w.heap.size, 0, none⟩ = some (.int .i64 3) := (bk_cell KB 0).trans rfl
      have bx1 : W0.cell? ⟨w.heap.size, 1, none⟩ = some (.int .i64 a) := (bk_cell KB 1).trans rfl
      have bx2 : W0.cell? ⟨w.heap.size, 2, none⟩ = some (.int .i64 b) := (bk_cell KB 2).trans rfl
      have bx3 : W0.cell? ⟨w.heap.size, 3, none⟩ = some (.slice ua un uc) := (bk_cell KB 3).trans rfl
      have bx4 : W0.cell? ⟨w.heap.size, 4, none⟩ = some (.bool fb) := (bk_cell KB 4).trans rfl
      have zc0 : W0.cell? ⟨w.heap.size + 2, 0, none⟩ = some (.int .i64 0) := (bk_cell KA.b2 0).trans rfl
      have zf0 : W0.frozen? ⟨w.heap.size + 2, 0, none⟩ = false := bk_free KA.b2 0
      have zc1 : W0.cell? ⟨w.heap.size + 2, 1, none⟩ = some (.int .i64 0) := (bk_cell KA.b2 1).trans rfl
      have zf1 : W0.frozen? ⟨w.heap.size + 2, 1, none⟩ = false := bk_free KA.b2 1
      have zc2 : W0.cell? ⟨w.heap.size + 2, 2, none⟩ = some (.int .i64 0) := (bk_cell KA.b2 2).trans rfl
      have zf2 : W0.frozen? ⟨w.heap.size + 2, 2, none⟩ = false := bk_free KA.b2 2
      have zc3 : W0.cell? ⟨w.heap.size + 2, 3, none⟩ = some (.slice none 0 0) := (bk_cell KA.b2 3).trans rfl
      have zf3 : W0.frozen? ⟨w.heap.size + 2, 3, none⟩ = false := bk_free KA.b2 3
      have zc4 : W0.cell? ⟨w.heap.size + 2, 4, none⟩ = some (.bool false) := (bk_cell KA.b2 4).trans rfl
      have zf4 : W0.frozen? ⟨w.heap.size + 2, 4, none⟩ = false := bk_free KA.b2 4
      have zc5 : W0.cell? ⟨w.heap.size + 2, 5, none⟩ = some (.bool false) := (bk_cell KA.b2 5).trans rfl
      have zf5 : W0.frozen? ⟨w.heap.size + 2, 5, none⟩ = false := bk_free KA.b2 5
      have zc6 : W0.cell? ⟨w.heap.size + 2, 6, none⟩ = some (.bool false) := (bk_cell KA.b2 6).trans rfl
      have zf6 : W0.frozen? ⟨w.heap.size + 2, 6, none⟩ = false := bk_free KA.b2 6
      obtain ⟨d0, d2, -, -, f0, f2, -, -⟩ := KR.cells
      obtain ⟨d1, f1⟩ := KR.more
      have KK : Hid _ := And.intro KA (And.intro KR (And.intro KC eS))
      clear KA KB KR KC eS
      have hcr0 := HH.out.2.2.1.cr
      by_cases hb : b < 0
      · have e := KK.out.2.2.2
        unfold scredit at e
        rw [if_pos hb] at e
        have emx : max m.credit b = m.credit := by omega
        have E : Hid _ := And.intro e emx
        clear e emx
        go_upto_region 11 with fail
        obtain ⟨W1, eW1⟩ : ∃ x, x = W0.setCell ⟨w.heap.size + 2, 0, none⟩ (.int .i64 1) := ⟨_, rfl⟩
        have A1 : RoomS w W1 (so7c 1 0 (.slice none 0 0) false false false) := by rw [eW1]; exact KK.out.1.set2 0 _
        have R1 : QRep W1 D g base m := by rw [eW1]; exact KK.out.2.1.set2 HH.out.2.2.2.1 0 _
        have C1 : Chg D w W1 := by rw [eW1]; exact KK.out.2.2.1.set2 0 _
        have x2 : W1.cell? ⟨w.heap.size, 2, none⟩ = some (.int .i64 b) := by rw [eW1]; exact (World.cell?_of_block (w := W0) (a := ⟨w.heap.size, 2, none⟩) (bk_other (k := w.heap.size) (g := w.heap.size + 2) (by omega) 0 _)).trans bx2
        rw [← eW1]
        clear eW1 bx0 bx1 bx2 bx3 bx4 d0 d1 d2 f0 f1 f2
        have y1 := R1.more.1
        have y2 := R1.more.2
        have y1d : W1.drew.cell? ⟨g, 1, none⟩ = some (.int .i64 m.credit) := y1
        have y2d : W1.drew.frozen? ⟨g, 1, none⟩ = false := y2
        have x2d : W1.drew.cell? ⟨w.heap.size, 2, none⟩ = some (.int .i64 b) := x2
        have hs1 : w.heap.size + 2 < W1.heap.size := A1.lt
        have KL : Hid _ := And.intro A1 (And.intro R1 C1)
        clear A1 R1 C1
        go_region
        all_goals
          go_wp2_with fail
          go_meet
          refine ⟨rfl, ?_⟩
          rw [E.out.1]
          refine mkMid _ (show RoomS w _ (so7c 1 0 (.slice none 0 0) false false false) from (KL.out.1.setG hgl 1 _).drew1) ?_ ((KL.out.2.2.trans (chgG KL.out.2.1.dgQ 1 _)).drewD 1)
          refine QRep.drew1 ?_
          have t := KL.out.2.1.setCr (max m.credit b)
          rw [E.out.2] at t ⊢
          exact t
      · have e := KK.out.2.2.2
        unfold scredit at e
        rw [if_neg hb] at e
        have E : Hid _ := And.intro e True.intro
        clear e
        have y1d : W0.drew.cell? ⟨g, 1, none⟩ = some (.int .i64 m.credit) := d1
        have y2d : W0.drew.frozen? ⟨g, 1, none⟩ = false := f1
        have x2d : W0.drew.cell? ⟨w.heap.size, 2, none⟩ = some (.int .i64 b) := bx2
        go_upto_region 11 with fail
        go_region
        all_goals
          go_wp2_with fail
          go_meet
          refine ⟨rfl, ?_⟩
          rw [E.out.1]
          exact mkMid _ (show RoomS w _ (so7c 0 0 (.slice none 0 0) false false false) from (KK.out.1.setG hgl 1 _).drew1) (QRep.drew1 (KK.out.2.1.setCr (max m.credit b))) ((KK.out.2.2.1.trans (chgG KK.out.2.1.dgQ 1 _)).drewD 1)
    rw [if_neg k3] at eS
    by_cases k4 : k = 4
    · subst k4
      rw [if_pos rfl] at eS
      obtain ⟨W0, eW0⟩ : ∃ x, x = ((w.alloc (.cells #[.int .i64 4, .int .i64 a, .int .i64 b, .slice ua un uc, .bool fb] 45)).alloc (.cells #[.int .i64 0, .int .i64 0, .int .i64 0, .slice none 0 0, .bool false, .bool false, .bool false] 43)).alloc (.cells #[.int .i64 0, .int .i64 0, .int .i64 0, .slice none 0 0, .bool false, .bool false, .bool false] 43) := ⟨_, rfl⟩
      have KA : RoomS w W0 (so7c 0 0 (.slice none 0 0) false false false) := by rw [eW0]; exact A0.1
      have KB : W0.heap[w.heap.size]? = some (opB 4 a b (.slice ua un uc) fb) := by rw [eW0]; exact A0.2
      have KR : QRep W0 D g base m := by rw [eW0]; exact R3
      have KC : Chg D w W0 := by rw [eW0]; exact Chg.of_below B3
      have hs0 : w.heap.size + 2 < W0.heap.size := KA.lt
      rw [← eW0]
      clear eW0 A0 B3 R3 row3 after s3 hsz
      have bx0 : W0.cell? ⟨w.heap.size, 0, none⟩ = some (.int .i64 4) := (bk_cell KB 0).trans rfl
      have bx1 : W0.cell? ⟨w.heap.size, 1, none⟩ = some (.int .i64 a) := (bk_cell KB 1).trans rfl
      have bx2 : W0.cell? ⟨w.heap.size, 2, none⟩ = some (.int .i64 b) := (bk_cell KB 2).trans rfl
      have bx3 : W0.cell? ⟨w.heap.size, 3, none⟩ = some (.slice ua un uc) := (bk_cell KB 3).trans rfl
      have bx4 : W0.cell? ⟨w.heap.size, 4, none⟩ = some (.bool fb) := (bk_cell KB 4).trans rfl
      have zc0 : W0.cell? ⟨w.heap.size + 2, 0, none⟩ = some (.int .i64 0) := (bk_cell KA.b2 0).trans rfl
      have zf0 : W0.frozen? ⟨w.heap.size + 2, 0, none⟩ = false := bk_free KA.b2 0
      have zc1 : W0.cell? ⟨w.heap.size + 2, 1, none⟩ = some (.int .i64 0) := (bk_cell KA.b2 1).trans rfl
      have zf1 : W0.frozen? ⟨w.heap.size + 2, 1, none⟩ = false := bk_free KA.b2 1
      have zc2 : W0.cell? ⟨w.heap.size + 2, 2, none⟩ = some (.int .i64 0) := (bk_cell KA.b2 2).trans rfl
      have zf2 : W0.frozen? ⟨w.heap.size + 2, 2, none⟩ = false := bk_free KA.b2 2
      have zc3 : W0.cell? ⟨w.heap.size + 2, 3, none⟩ = some (.slice none 0 0) := (bk_cell KA.b2 3).trans rfl
      have zf3 : W0.frozen? ⟨w.heap.size + 2, 3, none⟩ = false := bk_free KA.b2 3
      have zc4 : W0.cell? ⟨w.heap.size + 2, 4, none⟩ = some (.bool false) := (bk_cell KA.b2 4).trans rfl
      have zf4 : W0.frozen? ⟨w.heap.size + 2, 4, none⟩ = false := bk_free KA.b2 4
      have zc5 : W0.cell? ⟨w.heap.size + 2, 5, none⟩ = some (.bool false) := (bk_cell KA.b2 5).trans rfl
      have zf5 : W0.frozen? ⟨w.heap.size + 2, 5, none⟩ = false := bk_free KA.b2 5
      have zc6 : W0.cell? ⟨w.heap.size + 2, 6, none⟩ = some (.bool false) := (bk_cell KA.b2 6).trans rfl
      have zf6 : W0.frozen? ⟨w.heap.size + 2, 6, none⟩ = false := bk_free KA.b2 6
      obtain ⟨d0, d2, -, -, f0, f2, -, -⟩ := KR.cells
      obtain ⟨d1, f1⟩ := KR.more
      have KK : Hid _ := And.intro KA (And.intro KR (And.intro KC eS))
      clear KA KB KR KC eS
      by_cases hb : b < 1 ∨ 1500 < b
      · have e := KK.out.2.2.2
        rw [if_pos hb] at e
        have E : Hid _ := And.intro e True.intro
        clear e
        rcases hb with hb | hb
        · go_wp2_with fail
          go_meet
          refine ⟨rfl, ?_⟩
          rw [E.out.1]
          exact mkMid _ (show RoomS w _ (so7c 1 0 (.slice none 0 0) false false false) from KK.out.1.set2 0 _) (KK.out.2.1.set2 HH.out.2.2.2.1 0 _) (KK.out.2.2.1.set2 0 _)
        · have hb1 : ¬ b < 1 := by omega
          go_wp2_with fail
          go_meet
          refine ⟨rfl, ?_⟩
          rw [E.out.1]
          exact mkMid _ (show RoomS w _ (so7c 1 0 (.slice none 0 0) false false false) from KK.out.1.set2 0 _) (KK.out.2.1.set2 HH.out.2.2.2.1 0 _) (KK.out.2.2.1.set2 0 _)
      · have e := KK.out.2.2.2
        rw [if_neg hb] at e
        obtain ⟨n, rfl⟩ : ∃ n : Nat, b = (n : Int) := ⟨b.toNat, by omega⟩
        rw [Int.toNat_natCast] at e
        have C := pullM g base m n D W0 HH.out.2.2.1 KK.out.2.1 (by omega) hcr
        unfold PullP at C
        obtain ⟨P, eP⟩ : ∃ P, P = spull m n := ⟨_, rfl⟩
        rw [← eP] at C e
        obtain ⟨M1, off, Y, s, f, bk⟩ := P
        dsimp only at C e
        obtain ⟨yn, eyn⟩ : ∃ yn, yn = Y.length := ⟨_, rfl⟩
        have E : Hid _ := And.intro e (And.intro C eyn)
        have hb1 : ¬ (n : Int) < 1 ∧ ¬ 1500 < (n : Int) := by omega
        clear e C eP eyn hb
        obtain ⟨hb1, hb2⟩ := hb1
        go_wp2_with (go_at_call 26; refine E.out.2.1.mono ?_; rintro e w1 ⟨rv, rfl, o1, r1, c1⟩; obtain ⟨ra, rc, er⟩ := own_form o1; rw [← E.out.2.2] at er; subst er; have A1 := KK.out.1.chg c1 HH.out.2.2.2.1; have qc0 : w1.cell? ⟨w.heap.size + 2, 0, none⟩ = some (.int .i64 0) := (bk_cell A1.b2 0).trans rfl; have qf0 : w1.frozen? ⟨w.heap.size + 2, 0, none⟩ = false := bk_free A1.b2 0; have qc1 : w1.cell? ⟨w.heap.size + 2, 1, none⟩ = some (.int .i64 0) := (bk_cell A1.b2 1).trans rfl; have qf1 : w1.frozen? ⟨w.heap.size + 2, 1, none⟩ = false := bk_free A1.b2 1; have qc2 : w1.cell? ⟨w.heap.size + 2, 2, none⟩ = some (.int .i64 0) := (bk_cell A1.b2 2).trans rfl; have qf2 : w1.frozen? ⟨w.heap.size + 2, 2, none⟩ = false := bk_free A1.b2 2; have qc3 : w1.cell? ⟨w.heap.size + 2, 3, none⟩ = some (.slice none 0 0) := (bk_cell A1.b2 3).trans rfl; have qf3 : w1.frozen? ⟨w.heap.size + 2, 3, none⟩ = false := bk_free A1.b2 3; have qc4 : w1.cell? ⟨w.heap.size + 2, 4, none⟩ = some (.bool false) := (bk_cell A1.b2 4).trans rfl; have qf4 : w1.frozen? ⟨w.heap.size + 2, 4, none⟩ = false := bk_free A1.b2 4; have qc5 : w1.cell? ⟨w.heap.size + 2, 5, none⟩ = some (.bool false) := (bk_cell A1.b2 5).trans rfl; have qf5 : w1.frozen? ⟨w.heap.size + 2, 5, none⟩ = false := bk_free A1.b2 5; have qc6 : w1.cell? ⟨w.heap.size + 2, 6, none⟩ = some (.bool false) := (bk_cell A1.b2 6).trans rfl; have qf6 : w1.frozen? ⟨w.heap.size + 2, 6, none⟩ = false := bk_free A1.b2 6; have hs1 : w.heap.size + 2 < w1.heap.size := A1.lt; have H1 : Hid _ := And.intro r1 (And.intro A1 (And.intro c1 o1)); clear r1 A1 c1 o1)
        go_meet
        refine ⟨rfl, ?_⟩
        rw [E.out.1]
        have cS := put7_chg w1 (w.heap.size + 2) 0 (off : Int) (.slice ra yn rc) s f bk
        exact ⟨_, ⟨(cS.block _ (by omega) (by omega)).trans H1.out.2.1.b1, put7_blk H1.out.2.1.b2 0 (off : Int) (.slice ra yn rc) s f bk⟩, (LeftQ.of (N := w.heap.size + 3) H1.out.1 (fun t ht e => HH.out.2.2.2.1 t (by have := (H1.out.2.2.2.lt t ht).1; omega) e)).chg cS (fun t ht => ⟨HH.out.2.2.2.1 t (by have e : t = w.heap.size + 2 := ht; omega), by have e : t = w.heap.size + 2 := ht; omega⟩), (KK.out.2.2.1.trans H1.out.2.2.1).new cS (by omega), owns_mono (ownsChg cS H1.out.2.2.2 (fun t ht e => by have t1 := (H1.out.2.2.2.lt t ht).1; have e : t = w.heap.size + 2 := e; omega)) (by omega)⟩
    rw [if_neg k4] at eS
    by_cases k5 : k = 5
    · subst k5
      rw [if_pos rfl] at eS
      have C := heardM g base m a b fb 2 (by decide) D (WQ w 5 a b (.slice ua un uc) fb) HH.out.2.2.1 R3 h1' h2'
      have H0 : Hid _ := And.intro C (And.intro after eS)
      clear C A0 B3 R3 row3 after eS
      go_wp2_with (go_at_call 27; refine H0.out.1.mono ?_; rintro e w1 ⟨rfl, r1, c1⟩; obtain ⟨A1, c1'⟩ := H0.out.2.1 w1 c1; have zc0 : w1.cell? ⟨w.heap.size + 2, 0, none⟩ = some (.int .i64 0) := (bk_cell A1.b2 0).trans rfl; have zf0 : w1.frozen? ⟨w.heap.size + 2, 0, none⟩ = false := bk_free A1.b2 0; have hs1 : w.heap.size + 2 < w1.heap.size := A1.lt; have H1 : Hid _ := And.intro r1 (And.intro A1 c1'); clear r1 A1 c1 c1')
      go_meet
      refine ⟨rfl, ?_⟩
      rw [H0.out.2.2]
      exact midCode _ _ HH.out.2.2.2.1 H1.out.2.1 (LeftQ.of0 H1.out.1) H1.out.2.2
    rw [if_neg k5] at eS
    by_cases k6 : k = 6
    · subst k6
      rw [if_pos rfl] at eS
      have C := heardM g base m a b fb 3 (by decide) D (WQ w 6 a b (.slice ua un uc) fb) HH.out.2.2.1 R3 h1' h2'
      have H0 : Hid _ := And.intro C (And.intro after eS)
      clear C A0 B3 R3 row3 after eS
      go_wp2_with (go_at_call 27; refine H0.out.1.mono ?_; rintro e w1 ⟨rfl, r1, c1⟩; obtain ⟨A1, c1'⟩ := H0.out.2.1 w1 c1; have zc0 : w1.cell? ⟨w.heap.size + 2, 0, none⟩ = some (.int .i64 0) := (bk_cell A1.b2 0).trans rfl; have zf0 : w1.frozen? ⟨w.heap.size + 2, 0, none⟩ = false := bk_free A1.b2 0; have hs1 : w.heap.size + 2 < w1.heap.size := A1.lt; have H1 : Hid _ := And.intro r1 (And.intro A1 c1'); clear r1 A1 c1 c1')
      go_meet
      refine ⟨rfl, ?_⟩
      rw [H0.out.2.2]
      exact midCode _ _ HH.out.2.2.2.1 H1.out.2.1 (LeftQ.of0 H1.out.1) H1.out.2.2
    rw [if_neg k6] at eS
    by_cases k7 : k = 7
    · subst k7
      rw [if_pos rfl] at eS
      obtain ⟨W0, eW0⟩ : ∃ x, x = ((w.alloc (.cells #[.int .i64 7, .int .i64 a, .int .i64 b, .slice ua un uc, .bool fb] 45)).alloc (.cells #[.int .i64 0, .int .i64 0, .int .i64 0, .slice none 0 0, .bool false, .bool false, .bool false] 43)).alloc (.cells #[.int .i64 0, .int .i64 0, .int .i64 0, .slice none 0 0, .bool false, .bool false, .bool false] 43) := ⟨_, rfl⟩
      have KA : RoomS w W0 (so7c 0 0 (.slice none 0 0) false false false) := by rw [eW0]; exact A0.1
      have KB : W0.heap[w.heap.size]? = some (opB 7 a b (.slice ua un uc) fb) := by rw [eW0]; exact A0.2
      have KR : QRep W0 D g base m := by rw [eW0]; exact R3
      have KC : Chg D w W0 := by rw [eW0]; exact Chg.of_below B3
      have hs0 : w.heap.size + 2 < W0.heap.size := KA.lt
      rw [← eW0]
      clear eW0 A0 B3 R3 row3 after s3 hsz
      have bx0 : W0.cell? ⟨w.heap.size, 0, none⟩ = some (.int .i64 7) := (bk_cell KB 0).trans rfl
      have bx1 : W0.cell? ⟨w.heap.size, 1, none⟩ = some (.int .i64 a) := (bk_cell KB 1).trans rfl
      have bx2 : W0.cell? ⟨w.heap.size, 2, none⟩ = some (.int .i64 b) := (bk_cell KB 2).trans rfl
      have bx3 : W0.cell? ⟨w.heap.size, 3, none⟩ = some (.slice ua un uc) := (bk_cell KB 3).trans rfl
      have bx4 : W0.cell? ⟨w.heap.size, 4, none⟩ = some (.bool fb) := (bk_cell KB 4).trans rfl
      have zc0 : W0.cell? ⟨w.heap.size + 2, 0, none⟩ = some (.int .i64 0) := (bk_cell KA.b2 0).trans rfl
      have zf0 : W0.frozen? ⟨w.heap.size + 2, 0, none⟩ = false := bk_free KA.b2 0
      have zc1 : W0.cell? ⟨w.heap.size + 2, 1, none⟩ = some (.int .i64 0) := (bk_cell KA.b2 1).trans rfl
      have zf1 : W0.frozen? ⟨w.heap.size + 2, 1, none⟩ = false := bk_free KA.b2 1
      have zc2 : W0.cell? ⟨w.heap.size + 2, 2, none⟩ = some (.int .i64 0) := (bk_cell KA.b2 2).trans rfl
      have zf2 : W0.frozen? ⟨w.heap.size + 2, 2, none⟩ = false := bk_free KA.b2 2
      have zc3 : W0.cell? ⟨w.heap.size + 2, 3, none⟩ = some (.slice none 0 0) := (bk_cell KA.b2 3).trans rfl
      have zf3 : W0.frozen? ⟨w.heap.size + 2, 3, none⟩ = false := bk_free KA.b2 3
      have zc4 : W0.cell? ⟨w.heap.size + 2, 4, none⟩ = some (.bool false) := (bk_cell KA.b2 4).trans rfl
      have zf4 : W0.frozen? ⟨w.heap.size + 2, 4, none⟩ = false := bk_free KA.b2 4
      have zc5 : W0.cell? ⟨w.heap.size + 2, 5, none⟩ = some (.bool false) := (bk_cell KA.b2 5).trans rfl
      have zf5 : W0.frozen? ⟨w.heap.size + 2, 5, none⟩ = false := bk_free KA.b2 5
      have zc6 : W0.cell? ⟨w.heap.size + 2, 6, none⟩ = some (.bool false) := (bk_cell KA.b2 6).trans rfl
      have zf6 : W0.frozen? ⟨w.heap.size + 2, 6, none⟩ = false := bk_free KA.b2 6
      obtain ⟨d0, d2, -, -, f0, f2, -, -⟩ := KR.cells
      obtain ⟨d1, f1⟩ := KR.more
      have KK : Hid _ := And.intro KA (And.intro KR (And.intro KC eS))
      clear KA KB KR KC eS
      have LV : ∀ u : World, QRep u D g base m → Calls Tryd.prog 28 #[.pointer (some ⟨g, 0, none⟩)] u fun e w' => e = .returned (.bool m.live) ∧ w' = u := fun u hu => by
        obtain ⟨vd, vh, hb, hA⟩ := hu
        exact liveM g m.st m.credit m.next m.fin m.finish vd vh u hb
      have C := LV W0 KK.out.2.1
      have e := KK.out.2.2.2
      clear LV
      cases hv : m.live
      · rw [hv] at C e
        rw [if_neg (by decide)] at e
        have E : Hid _ := And.intro e C
        clear e C
        go_wp2_with (go_at_call 28; refine E.out.2.mono ?_; rintro e w1 ⟨rfl, hw1⟩; subst w1)
        go_meet
        refine ⟨rfl, ?_⟩
        rw [E.out.1]
        exact mkMid _ (show RoomS w _ (so7c 7 0 (.slice none 0 0) false false false) from KK.out.1.set2 0 _) (KK.out.2.1.set2 HH.out.2.2.2.1 0 _) (KK.out.2.2.1.set2 0 _)
      · rw [hv] at C e
        rw [if_pos rfl] at e
        have E : Hid _ := And.intro e C
        clear e C
        go_wp2_with (go_at_call 28; refine E.out.2.mono ?_; rintro e w1 ⟨rfl, hw1⟩; subst w1)
        go_meet
        refine ⟨rfl, ?_⟩
        rw [E.out.1]
        exact mkMid _ (show RoomS w _ (so7c 0 (m.next : Int) (.slice none 0 0) false false false) from (KK.out.1.setG hgl 0 _).set2 2 _) ((KK.out.2.1.setSt 4).set2 HH.out.2.2.2.1 2 _) ((KK.out.2.2.1.trans (chgG KK.out.2.1.dgQ 0 _)).set2 2 _)
    rw [if_neg k7] at eS
    by_cases k8 : k = 8
    · subst k8
      rw [if_pos rfl] at eS
      obtain ⟨W0, eW0⟩ : ∃ x, x = ((w.alloc (.cells #[.int .i64 8, .int .i64 a, .int .i64 b, .slice ua un uc, .bool fb] 45)).alloc (.cells #[.int .i64 0, .int .i64 0, .int .i64 0, .slice none 0 0, .bool false, .bool false, .bool false] 43)).alloc (.cells #[.int .i64 0, .int .i64 0, .int .i64 0, .slice none 0 0, .bool false, .bool false, .bool false] 43) := ⟨_, rfl⟩
      have KA : RoomS w W0 (so7c 0 0 (.slice none 0 0) false false false) := by rw [eW0]; exact A0.1
      have KB : W0.heap[w.heap.size]? = some (opB 8 a b (.slice ua un uc) fb) := by rw [eW0]; exact A0.2
      have KR : QRep W0 D g base m := by rw [eW0]; exact R3
      have KC : Chg D w W0 := by rw [eW0]; exact Chg.of_below B3
      have hs0 : w.heap.size + 2 < W0.heap.size := KA.lt
      rw [← eW0]
      clear eW0 A0 B3 R3 row3 after s3 hsz
      have bx0 : W0.cell? ⟨w.heap.size, 0, none⟩ = some (.int .i64 8) := (bk_cell KB 0).trans rfl
      have bx1 : W0.cell? ⟨w.heap.size, 1, none⟩ = some (.int .i64 a) := (bk_cell KB 1).trans rfl
      have bx2 : W0.cell? ⟨w.heap.size, 2, none⟩ = some (.int .i64 b) := (bk_cell KB 2).trans rfl
      have bx3 : W0.cell? ⟨w.heap.size, 3, none⟩ = some (.slice ua un uc) := (bk_cell KB 3).trans rfl
      have bx4 : W0.cell? ⟨w.heap.size, 4, none⟩ = some (.bool fb) := (bk_cell KB 4).trans rfl
      have zc0 : W0.cell? ⟨w.heap.size + 2, 0, none⟩ = some (.int .i64 0) := (bk_cell KA.b2 0).trans rfl
      have zf0 : W0.frozen? ⟨w.heap.size + 2, 0, none⟩ = false := bk_free KA.b2 0
      have zc1 : W0.cell? ⟨w.heap.size + 2, 1, none⟩ = some (.int .i64 0) := (bk_cell KA.b2 1).trans rfl
      have zf1 : W0.frozen? ⟨w.heap.size + 2, 1, none⟩ = false := bk_free KA.b2 1
      have zc2 : W0.cell? ⟨w.heap.size + 2, 2, none⟩ = some (.int .i64 0) := (bk_cell KA.b2 2).trans rfl
      have zf2 : W0.frozen? ⟨w.heap.size + 2, 2, none⟩ = false := bk_free KA.b2 2
      have zc3 : W0.cell? ⟨w.heap.size + 2, 3, none⟩ = some (.slice none 0 0) := (bk_cell KA.b2 3).trans rfl
      have zf3 : W0.frozen? ⟨w.heap.size + 2, 3, none⟩ = false := bk_free KA.b2 3
      have zc4 : W0.cell? ⟨w.heap.size + 2, 4, none⟩ = some (.bool false) := (bk_cell KA.b2 4).trans rfl
      have zf4 : W0.frozen? ⟨w.heap.size + 2, 4, none⟩ = false := bk_free KA.b2 4
      have zc5 : W0.cell? ⟨w.heap.size + 2, 5, none⟩ = some (.bool false) := (bk_cell KA.b2 5).trans rfl
      have zf5 : W0.frozen? ⟨w.heap.size + 2, 5, none⟩ = false := bk_free KA.b2 5
      have zc6 : W0.cell? ⟨w.heap.size + 2, 6, none⟩ = some (.bool false) := (bk_cell KA.b2 6).trans rfl
      have zf6 : W0.frozen? ⟨w.heap.size + 2, 6, none⟩ = false := bk_free KA.b2 6
      obtain ⟨d0, d2, -, -, f0, f2, -, -⟩ := KR.cells
      obtain ⟨d1, f1⟩ := KR.more
      have KK : Hid _ := And.intro KA (And.intro KR (And.intro KC eS))
      clear KA KB KR KC eS
      have e := KK.out.2.2.2
      by_cases hv : m.st = 4
      · rw [if_pos hv] at e
        rw [hv] at d0
        have E : Hid _ := And.intro e hv
        clear e hv
        go_wp2_with fail
        go_meet
        refine ⟨rfl, ?_⟩
        rw [E.out.1]
        exact mkMid _ (KK.out.1.setG hgl 0 _) (KK.out.2.1.setSt 5) (KK.out.2.2.1.trans (chgG KK.out.2.1.dgQ 0 _))
      · rw [if_neg hv] at e
        have z4 : ((m.st : Int) == 4) = false := by simp; omega
        have E : Hid _ := And.intro e hv
        clear e hv
        go_wp2_with fail
        go_meet
        refine ⟨rfl, ?_⟩
        rw [E.out.1]
        exact mkMid _ (show RoomS w _ (so7c 7 0 (.slice none 0 0) false false false) from KK.out.1.set2 0 _) (KK.out.2.1.set2 HH.out.2.2.2.1 0 _) (KK.out.2.2.1.set2 0 _)
    rw [if_neg k8] at eS
    obtain ⟨W0, eW0⟩ : ∃ x, x = ((w.alloc (.cells #[.int .i64 k, .int .i64 a, .int .i64 b, .slice ua un uc, .bool fb] 45)).alloc (.cells #[.int .i64 0, .int .i64 0, .int .i64 0, .slice none 0 0, .bool false, .bool false, .bool false] 43)).alloc (.cells #[.int .i64 0, .int .i64 0, .int .i64 0, .slice none 0 0, .bool false, .bool false, .bool false] 43) := ⟨_, rfl⟩
    have KA : RoomS w W0 (so7c 0 0 (.slice none 0 0) false false false) := by rw [eW0]; exact A0.1
    have KB : W0.heap[w.heap.size]? = some (opB k a b (.slice ua un uc) fb) := by rw [eW0]; exact A0.2
    have KR : QRep W0 D g base m := by rw [eW0]; exact R3
    have KC : Chg D w W0 := by rw [eW0]; exact Chg.of_below B3
    have hs0 : w.heap.size + 2 < W0.heap.size := KA.lt
    rw [← eW0]
    clear eW0 A0 B3 R3 row3 after s3 hsz
    have bx0 : W0.cell? ⟨w.heap.size, 0, none⟩ = some (.int .i64 k) := (bk_cell KB 0).trans rfl
    have bx1 : W0.cell? ⟨w.heap.size, 1, none⟩ = some (.int .i64 a) := (bk_cell KB 1).trans rfl
    have bx2 : W0.cell? ⟨w.heap.size, 2, none⟩ = some (.int .i64 b) := (bk_cell KB 2).trans rfl
    have bx3 : W0.cell? ⟨w.heap.size, 3, none⟩ = some (.slice ua un uc) := (bk_cell KB 3).trans rfl
    have bx4 : W0.cell? ⟨w.heap.size, 4, none⟩ = some (.bool fb) := (bk_cell KB 4).trans rfl
    have zc0 : W0.cell? ⟨w.heap.size + 2, 0, none⟩ = some (.int .i64 0) := (bk_cell KA.b2 0).trans rfl
    have zf0 : W0.frozen? ⟨w.heap.size + 2, 0, none⟩ = false := bk_free KA.b2 0
    have zc1 : W0.cell? ⟨w.heap.size + 2, 1, none⟩ = some (.int .i64 0) := (bk_cell KA.b2 1).trans rfl
    have zf1 : W0.frozen? ⟨w.heap.size + 2, 1, none⟩ = false := bk_free KA.b2 1
    have zc2 : W0.cell? ⟨w.heap.size + 2, 2, none⟩ = some (.int .i64 0) := (bk_cell KA.b2 2).trans rfl
    have zf2 : W0.frozen? ⟨w.heap.size + 2, 2, none⟩ = false := bk_free KA.b2 2
    have zc3 : W0.cell? ⟨w.heap.size + 2, 3, none⟩ = some (.slice none 0 0) := (bk_cell KA.b2 3).trans rfl
    have zf3 : W0.frozen? ⟨w.heap.size + 2, 3, none⟩ = false := bk_free KA.b2 3
    have zc4 : W0.cell? ⟨w.heap.size + 2, 4, none⟩ = some (.bool false) := (bk_cell KA.b2 4).trans rfl
    have zf4 : W0.frozen? ⟨w.heap.size + 2, 4, none⟩ = false := bk_free KA.b2 4
    have zc5 : W0.cell? ⟨w.heap.size + 2, 5, none⟩ = some (.bool false) := (bk_cell KA.b2 5).trans rfl
    have zf5 : W0.frozen? ⟨w.heap.size + 2, 5, none⟩ = false := bk_free KA.b2 5
    have zc6 : W0.cell? ⟨w.heap.size + 2, 6, none⟩ = some (.bool false) := (bk_cell KA.b2 6).trans rfl
    have zf6 : W0.frozen? ⟨w.heap.size + 2, 6, none⟩ = false := bk_free KA.b2 6
    obtain ⟨d0, d2, -, -, f0, f2, -, -⟩ := KR.cells
    obtain ⟨d1, f1⟩ := KR.more
    have KK : Hid _ := And.intro KA (And.intro KR (And.intro KC eS))
    clear KA KB KR KC eS
    have n1 : (k == 1) = false := by simpa using k1
    have n2 : (k == 2) = false := by simpa using k2
    have n3 : (k == 3) = false := by simpa using k3
    have n4 : (k == 4) = false := by simpa using k4
    have n5 : (k == 5) = false := by simpa using k5
    have n6 : (k == 6) = false := by simpa using k6
    have n7 : (k == 7) = false := by simpa using k7
    have n8 : (k == 8) = false := by simpa using k8
    clear k1 k2 k3 k4 k5 k6 k7 k8
    go_wp2_with fail
    go_meet
    refine ⟨rfl, ?_⟩
    rw [KK.out.2.2.2]
    exact mkMid _ (show RoomS w _ (so7c 1 0 (.slice none 0 0) false false false) from KK.out.1.set2 0 _) (KK.out.2.1.set2 HH.out.2.2.2.1 0 _) (KK.out.2.2.1.set2 0 _)
  case rest =>
  obtain ⟨rfl, rv, A1, l1, c1, o1⟩ := hcut
  obtain ⟨ra, rc, er⟩ := own_form o1
  obtain ⟨n, en⟩ : ∃ n, n = S.2.f3.length := ⟨_, rfl⟩
  rw [← en] at er
  subst er
  have d1 := l1.c0
  rw [← HH.out.2.2.2.2.2] at d1
  obtain ⟨q0, e0⟩ : ∃ q, q = S.2.f0 := ⟨_, rfl⟩
  obtain ⟨q1, e1⟩ : ∃ q, q = S.2.f1 := ⟨_, rfl⟩
  obtain ⟨q2, e2⟩ : ∃ q, q = S.2.f2 := ⟨_, rfl⟩
  obtain ⟨q4, e4⟩ : ∃ q, q = S.2.f4 := ⟨_, rfl⟩
  obtain ⟨q5, e5⟩ : ∃ q, q = S.2.f5 := ⟨_, rfl⟩
  obtain ⟨q6, e6⟩ : ∃ q, q = S.2.f6 := ⟨_, rfl⟩
  rw [← e0, ← e2, ← e4, ← e5, ← e6] at A1
  rw [← e1] at d1
  have HE : Hid _ := And.intro e0 (And.intro e1 (And.intro e2 (And.intro e4 (And.intro e5 e6))))
  have xc0 : wc.cell? ⟨w.heap.size + 2, 0, none⟩ = some (.int .i64 q0) := (bk_cell A1.b2 0).trans rfl
  have xf0 : wc.frozen? ⟨w.heap.size + 2, 0, none⟩ = false := bk_free A1.b2 0
  have xc1 : wc.cell? ⟨w.heap.size + 2, 1, none⟩ = some (.int .i64 0) := (bk_cell A1.b2 1).trans rfl
  have xf1 : wc.frozen? ⟨w.heap.size + 2, 1, none⟩ = false := bk_free A1.b2 1
  have xc2 : wc.cell? ⟨w.heap.size + 2, 2, none⟩ = some (.int .i64 q2) := (bk_cell A1.b2 2).trans rfl
  have xf2 : wc.frozen? ⟨w.heap.size + 2, 2, none⟩ = false := bk_free A1.b2 2
  have xc3 : wc.cell? ⟨w.heap.size + 2, 3, none⟩ = some (.slice ra n rc) := (bk_cell A1.b2 3).trans rfl
  have xf3 : wc.frozen? ⟨w.heap.size + 2, 3, none⟩ = false := bk_free A1.b2 3
  have xc4 : wc.cell? ⟨w.heap.size + 2, 4, none⟩ = some (.bool q4) := (bk_cell A1.b2 4).trans rfl
  have xf4 : wc.frozen? ⟨w.heap.size + 2, 4, none⟩ = false := bk_free A1.b2 4
  have xc5 : wc.cell? ⟨w.heap.size + 2, 5, none⟩ = some (.bool q5) := (bk_cell A1.b2 5).trans rfl
  have xf5 : wc.frozen? ⟨w.heap.size + 2, 5, none⟩ = false := bk_free A1.b2 5
  have xc6 : wc.cell? ⟨w.heap.size + 2, 6, none⟩ = some (.bool q6) := (bk_cell A1.b2 6).trans rfl
  have xf6 : wc.frozen? ⟨w.heap.size + 2, 6, none⟩ = false := bk_free A1.b2 6
  have yc0 : wc.cell? ⟨w.heap.size + 1, 0, none⟩ = some (.int .i64 0) := (bk_cell A1.b1 0).trans rfl
  have yf0 : wc.frozen? ⟨w.heap.size + 1, 0, none⟩ = false := bk_free A1.b1 0
  have yc1 : wc.cell? ⟨w.heap.size + 1, 1, none⟩ = some (.int .i64 0) := (bk_cell A1.b1 1).trans rfl
  have yf1 : wc.frozen? ⟨w.heap.size + 1, 1, none⟩ = false := bk_free A1.b1 1
  have yc2 : wc.cell? ⟨w.heap.size + 1, 2, none⟩ = some (.int .i64 0) := (bk_cell A1.b1 2).trans rfl
  have yf2 : wc.frozen? ⟨w.heap.size + 1, 2, none⟩ = false := bk_free A1.b1 2
  have yc3 : wc.cell? ⟨w.heap.size + 1, 3, none⟩ = some (.slice none 0 0) := (bk_cell A1.b1 3).trans rfl
  have yf3 : wc.frozen? ⟨w.heap.size + 1, 3, none⟩ = false := bk_free A1.b1 3
  have yc4 : wc.cell? ⟨w.heap.size + 1, 4, none⟩ = some (.bool false) := (bk_cell A1.b1 4).trans rfl
  have yf4 : wc.frozen? ⟨w.heap.size + 1, 4, none⟩ = false := bk_free A1.b1 4
  have yc5 : wc.cell? ⟨w.heap.size + 1, 5, none⟩ = some (.bool false) := (bk_cell A1.b1 5).trans rfl
  have yf5 : wc.frozen? ⟨w.heap.size + 1, 5, none⟩ = false := bk_free A1.b1 5
  have yc6 : wc.cell? ⟨w.heap.size + 1, 6, none⟩ = some (.bool false) := (bk_cell A1.b1 6).trans rfl
  have yf6 : wc.frozen? ⟨w.heap.size + 1, 6, none⟩ = false := bk_free A1.b1 6
  have hsz : w.heap.size + 2 < wc.heap.size := A1.lt
  have H1 : Hid _ := And.intro A1 (And.intro l1 (And.intro c1 o1))
  clear A1 l1 c1 o1 e0 e1 e2 e4 e5 e6 en
  go_wp2_with fail
  have cS : Chg (fun t => t = w.heap.size + 2 ∨ t = w.heap.size + 1) wc (putO (wc.setCell ⟨w.heap.size + 2, 1, none⟩ (.int .i64 q1)) (w.heap.size + 1) q0 q1 q2 (.slice ra n rc) q4 q5 q6) :=
    ((chg_of_eq wc).set' (w.heap.size + 2) 1 _ (Or.inl rfl)).trans ((putO_chg _ _ _ _ _ _ _ _ _).mono' (fun k _ e => Or.inr e))
  exact bodyPost_ret (v := .agg (so7s q0 q1 q2 (.slice ra n rc) q4 q5 q6)) (results_cell_row (t := 43) rfl _ _ (w.heap.size + 1) _ (fr := (0, 0)) _ rfl (putO_blk ((bk_other (by omega) 1 _).trans H1.out.1.b1) q0 q1 q2 (.slice ra n rc) q4 q5 q6) Tryd.underlying43 rfl infoSObs) rfl ⟨_, by rw [← HE.out.1, ← HE.out.2.1, ← HE.out.2.2.1, ← HE.out.2.2.2.1, ← HE.out.2.2.2.2.1, ← HE.out.2.2.2.2.2], ownsChg cS H1.out.2.2.2 (fun t ht e => by have t1 := (H1.out.2.2.2.lt t ht).1; omega), H1.out.2.1.chg cS (fun t ht => ⟨HH.out.2.2.2.1 t (by omega), by omega⟩), H1.out.2.2.1.newS cS (fun t ht => by omega)⟩
end Go.Proofs.YtdkonhjbcgnfhaaDoor

namespace Go.Proofs.YtdkonhjbcgnfhaaDoor
open Go.RowKit
set_option linter.unusedVariables false
set_option linter.unusedSimpArgs false

set_option maxRecDepth 20000 in
set_option maxHeartbeats 4000000 in
theorem sop_pull (g base : Nat) (D : Nat → Prop) (a b : Int) (u : Value) (fb : Bool) (w : World) (cd off st : Int) (rv : Value) (s f bk : Bool) (M1 : SS) (est : (M1.st : Int) = st) (hgl : g < w.heap.size) (hlt : ∀ t, D t → t < w.heap.size) (X : List Int)
    (C : Calls Tryd.prog 33 #[.pointer (some ⟨g, 0, none⟩), .int .i64 b] (W3 w 4 a b u fb) fun e w' => ∃ rv, e = .returned (.agg (so7c cd off rv s f bk)) ∧ w'.ownsRow (w.heap.size + 3) 5 1 rv X.length (X.map (Value.int .u8)) ∧ LeftS g base D (w.heap.size + 3) w' M1 rv ∧ Chg D (W3 w 4 a b u fb) w') :
    Calls Tryd.prog 18 #[.pointer (some ⟨g, 0, none⟩), .agg #[.int .i64 4, .int .i64 a, .int .i64 b, u, .bool fb]] w fun e w' => ∃ rv, e = .returned (.agg (so7s cd st off rv s f bk)) ∧ w'.ownsRow (w.heap.size + 3) 5 1 rv X.length (X.map (Value.int .u8)) ∧ LeftS g base D (w.heap.size + 3) w' M1 rv ∧ Chg D w w' := by
  have A0 := room_new w 4 a b u fb
  have hND : ∀ k, w.heap.size ≤ k → ¬ D k := fun k hk h => by have := hlt k h; omega
  obtain ⟨n, en⟩ : ∃ n, n = X.length := ⟨_, rfl⟩
  have H0 : Hid _ := And.intro C (And.intro A0 (And.intro hND (And.intro est en)))
  clear C A0 hND hlt est en
  go_enter Tryd.func18, Tryd.ntmps18
  go_upto_block 0 with fail
  go_cut [5] from 9 to 64 (fun v5 wx => v5 = .pointer (some ⟨w.heap.size + 1 + 1, 0, none⟩) ∧ ∃ rv, RoomS w wx (so7c cd off rv s f bk) ∧ LeftS g base D (w.heap.size + 3) wx M1 rv ∧ Chg D w wx ∧ wx.ownsRow (w.heap.size + 3) 5 1 rv X.length (X.map (Value.int .u8)))
  case first =>
    go_wp2_with (go_at_call 33; refine H0.out.1.mono ?_; rintro e w1 ⟨rv, rfl, o1, l1, c1⟩; obtain ⟨ra, rc, er⟩ := own_form o1; rw [← H0.out.2.2.2.2] at er; subst er; have A1 := H0.out.2.1.chg c1 H0.out.2.2.1; have zc0 : w1.cell? ⟨w.heap.size + 2, 0, none⟩ = some (.int .i64 1) := (bk_cell A1.b2 0).trans rfl; have zf0 : w1.frozen? ⟨w.heap.size + 2, 0, none⟩ = false := bk_free A1.b2 0; have zc1 : w1.cell? ⟨w.heap.size + 2, 1, none⟩ = some (.int .i64 0) := (bk_cell A1.b2 1).trans rfl; have zf1 : w1.frozen? ⟨w.heap.size + 2, 1, none⟩ = false := bk_free A1.b2 1; have zc2 : w1.cell? ⟨w.heap.size + 2, 2, none⟩ = some (.int .i64 0) := (bk_cell A1.b2 2).trans rfl; have zf2 : w1.frozen? ⟨w.heap.size + 2, 2, none⟩ = false := bk_free A1.b2 2; have zc3 : w1.cell? ⟨w.heap.size + 2, 3, none⟩ = some (.slice none 0 0) := (bk_cell A1.b2 3).trans rfl; have zf3 : w1.frozen? ⟨w.heap.size + 2, 3, none⟩ = false := bk_free A1.b2 3; have zc4 : w1.cell? ⟨w.heap.size + 2, 4, none⟩ = some (.bool false) := (bk_cell A1.b2 4).trans rfl; have zf4 : w1.frozen? ⟨w.heap.size + 2, 4, none⟩ = false := bk_free A1.b2 4; have zc5 : w1.cell? ⟨w.heap.size + 2, 5, none⟩ = some (.bool false) := (bk_cell A1.b2 5).trans rfl; have zf5 : w1.frozen? ⟨w.heap.size + 2, 5, none⟩ = false := bk_free A1.b2 5; have zc6 : w1.cell? ⟨w.heap.size + 2, 6, none⟩ = some (.bool false) := (bk_cell A1.b2 6).trans rfl; have zf6 : w1.frozen? ⟨w.heap.size + 2, 6, none⟩ = false := bk_free A1.b2 6; have hsz : w.heap.size + 2 < w1.heap.size := A1.lt; have H1 : Hid _ := And.intro A1 (And.intro l1 (And.intro c1 o1)); clear A1 l1 c1 o1)
    go_meet
    have cS : Chg (fun t => t = w.heap.size + 2) w1 (put7 w1 (w.heap.size + 2) cd off (.slice ra n rc) s f bk) := put7_chg w1 (w.heap.size + 2) cd off (.slice ra n rc) s f bk
    exact ⟨rfl, _, ⟨(cS.block _ (by omega) (by omega)).trans H1.out.1.b1, put7_blk H1.out.1.b2 cd off (.slice ra n rc) s f bk⟩, H1.out.2.1.chg cS (fun t ht => ⟨H0.out.2.2.1 t (by omega), by omega⟩), ((Chg.of_below (w3_below w 4 a b _ fb)).trans H1.out.2.2.1).newS cS (fun t ht => by omega), ownsChg cS H1.out.2.2.2 (fun t ht e => by have t1 := (H1.out.2.2.2.lt t ht).1; omega)⟩
  case rest =>
  obtain ⟨rfl, rv, A1, l1, c1, o1⟩ := hcut
  obtain ⟨ra, rc, er⟩ := own_form o1
  rw [← H0.out.2.2.2.2] at er
  subst er
  have d1 := l1.c1
  rw [H0.out.2.2.2.1] at d1
  have xc0 : wc.cell? ⟨w.heap.size + 2, 0, none⟩ = some (.int .i64 cd) := (bk_cell A1.b2 0).trans rfl
  have xf0 : wc.frozen? ⟨w.heap.size + 2, 0, none⟩ = false := bk_free A1.b2 0
  have xc1 : wc.cell? ⟨w.heap.size + 2, 1, none⟩ = some (.int .i64 0) := (bk_cell A1.b2 1).trans rfl
  have xf1 : wc.frozen? ⟨w.heap.size + 2, 1, none⟩ = false := bk_free A1.b2 1
  have xc2 : wc.cell? ⟨w.heap.size + 2, 2, none⟩ = some (.int .i64 off) := (bk_cell A1.b2 2).trans rfl
  have xf2 : wc.frozen? ⟨w.heap.size + 2, 2, none⟩ = false := bk_free A1.b2 2
  have xc3 : wc.cell? ⟨w.heap.size + 2, 3, none⟩ = some (.slice ra n rc) := (bk_cell A1.b2 3).trans rfl
  have xf3 : wc.frozen? ⟨w.heap.size + 2, 3, none⟩ = false := bk_free A1.b2 3
  have xc4 : wc.cell? ⟨w.heap.size + 2, 4, none⟩ = some (.bool s) := (bk_cell A1.b2 4).trans rfl
  have xf4 : wc.frozen? ⟨w.heap.size + 2, 4, none⟩ = false := bk_free A1.b2 4
  have xc5 : wc.cell? ⟨w.heap.size + 2, 5, none⟩ = some (.bool f) := (bk_cell A1.b2 5).trans rfl
  have xf5 : wc.frozen? ⟨w.heap.size + 2, 5, none⟩ = false := bk_free A1.b2 5
  have xc6 : wc.cell? ⟨w.heap.size + 2, 6, none⟩ = some (.bool bk) := (bk_cell A1.b2 6).trans rfl
  have xf6 : wc.frozen? ⟨w.heap.size + 2, 6, none⟩ = false := bk_free A1.b2 6
  have yc0 : wc.cell? ⟨w.heap.size + 1, 0, none⟩ = some (.int .i64 0) := (bk_cell A1.b1 0).trans rfl
  have yf0 : wc.frozen? ⟨w.heap.size + 1, 0, none⟩ = false := bk_free A1.b1 0
  have yc1 : wc.cell? ⟨w.heap.size + 1, 1, none⟩ = some (.int .i64 0) := (bk_cell A1.b1 1).trans rfl
  have yf1 : wc.frozen? ⟨w.heap.size + 1, 1, none⟩ = false := bk_free A1.b1 1
  have yc2 : wc.cell? ⟨w.heap.size + 1, 2, none⟩ = some (.int .i64 0) := (bk_cell A1.b1 2).trans rfl
  have yf2 : wc.frozen? ⟨w.heap.size + 1, 2, none⟩ = false := bk_free A1.b1 2
  have yc3 : wc.cell? ⟨w.heap.size + 1, 3, none⟩ = some (.slice none 0 0) := (bk_cell A1.b1 3).trans rfl
  have yf3 : wc.frozen? ⟨w.heap.size + 1, 3, none⟩ = false := bk_free A1.b1 3
  have yc4 : wc.cell? ⟨w.heap.size + 1, 4, none⟩ = some (.bool false) := (bk_cell A1.b1 4).trans rfl
  have yf4 : wc.frozen? ⟨w.heap.size + 1, 4, none⟩ = false := bk_free A1.b1 4
  have yc5 : wc.cell? ⟨w.heap.size + 1, 5, none⟩ = some (.bool false) := (bk_cell A1.b1 5).trans rfl
  have yf5 : wc.frozen? ⟨w.heap.size + 1, 5, none⟩ = false := bk_free A1.b1 5
  have yc6 : wc.cell? ⟨w.heap.size + 1, 6, none⟩ = some (.bool false) := (bk_cell A1.b1 6).trans rfl
  have yf6 : wc.frozen? ⟨w.heap.size + 1, 6, none⟩ = false := bk_free A1.b1 6
  have hsz : w.heap.size + 2 < wc.heap.size := A1.lt
  have H1 : Hid _ := And.intro A1 (And.intro l1 (And.intro c1 o1))
  clear A1 l1 c1 o1
  go_wp2_with fail
  have cS : Chg (fun t => t = w.heap.size + 2 ∨ t = w.heap.size + 1) wc (putO (wc.setCell ⟨w.heap.size + 2, 1, none⟩ (.int .i64 st)) (w.heap.size + 1) cd st off (.slice ra n rc) s f bk) :=
    ((chg_of_eq wc).set' (w.heap.size + 2) 1 _ (Or.inl rfl)).trans ((putO_chg _ _ _ _ _ _ _ _ _).mono' (fun k _ e => Or.inr e))
  exact bodyPost_ret (v := .agg (so7s cd st off (.slice ra n rc) s f bk)) (results_cell_row (t := 43) rfl _ _ (w.heap.size + 1) _ (fr := (0, 0)) _ rfl (putO_blk ((bk_other (by omega) 1 _).trans H1.out.1.b1) cd st off (.slice ra n rc) s f bk) Tryd.underlying43 rfl infoSObs) rfl ⟨_, rfl, ownsChg cS H1.out.2.2.2 (fun t ht e => by have t1 := (H1.out.2.2.2.lt t ht).1; omega), H1.out.2.1.chg cS (fun t ht => ⟨H0.out.2.2.1 t (by omega), by omega⟩), H1.out.2.2.1.newS cS (fun t ht => by omega)⟩
set_option maxRecDepth 20000 in
set_option maxHeartbeats 4000000 in
theorem sop_reset (g base : Nat) (D : Nat → Prop) (a b : Int) (u : Value) (fb : Bool) (w : World) (cd off st : Int) (rv : Value) (s f bk : Bool) (M1 : SS) (est : (M1.st : Int) = st) (hgl : g < w.heap.size) (hlt : ∀ t, D t → t < w.heap.size) (X : List Int)
    (C : Calls Tryd.prog 35 #[.pointer (some ⟨g, 0, none⟩)] (W3 w 7 a b u fb) fun e w' => ∃ rv, e = .returned (.agg (so7c cd off rv s f bk)) ∧ w'.ownsRow (w.heap.size + 3) 5 1 rv X.length (X.map (Value.int .u8)) ∧ LeftS g base D (w.heap.size + 3) w' M1 rv ∧ Chg D (W3 w 7 a b u fb) w') :
    Calls Tryd.prog 18 #[.pointer (some ⟨g, 0, none⟩), .agg #[.int .i64 7, .int .i64 a, .int .i64 b, u, .bool fb]] w fun e w' => ∃ rv, e = .returned (.agg (so7s cd st off rv s f bk)) ∧ w'.ownsRow (w.heap.size + 3) 5 1 rv X.length (X.map (Value.int .u8)) ∧ LeftS g base D (w.heap.size + 3) w' M1 rv ∧ Chg D w w' := by
  have A0 := room_new w 7 a b u fb
  have hND : ∀ k, w.heap.size ≤ k → ¬ D k := fun k hk h => by have := hlt k h; omega
  obtain ⟨n, en⟩ : ∃ n, n = X.length := ⟨_, rfl⟩
  have H0 : Hid _ := And.intro C (And.intro A0 (And.intro hND (And.intro est en)))
  clear C A0 hND hlt est en
  go_enter Tryd.func18, Tryd.ntmps18
  go_upto_block 0 with fail
  go_cut [5] from 9 to 64 (fun v5 wx => v5 = .pointer (some ⟨w.heap.size + 1 + 1, 0, none⟩) ∧ ∃ rv, RoomS w wx (so7c cd off rv s f bk) ∧ LeftS g base D (w.heap.size + 3) wx M1 rv ∧ Chg D w wx ∧ wx.ownsRow (w.heap.size + 3) 5 1 rv X.length (X.map (Value.int .u8)))
  case first =>
    go_wp2_with (go_at_call 35; refine H0.out.1.mono ?_; rintro e w1 ⟨rv, rfl, o1, l1, c1⟩; obtain ⟨ra, rc, er⟩ := own_form o1; rw [← H0.out.2.2.2.2] at er; subst er; have A1 := H0.out.2.1.chg c1 H0.out.2.2.1; have zc0 : w1.cell? ⟨w.heap.size + 2, 0, none⟩ = some (.int .i64 1) := (bk_cell A1.b2 0).trans rfl; have zf0 : w1.frozen? ⟨w.heap.size + 2, 0, none⟩ = false := bk_free A1.b2 0; have zc1 : w1.cell? ⟨w.heap.size + 2, 1, none⟩ = some (.int .i64 0) := (bk_cell A1.b2 1).trans rfl; have zf1 : w1.frozen? ⟨w.heap.size + 2, 1, none⟩ = false := bk_free A1.b2 1; have zc2 : w1.cell? ⟨w.heap.size + 2, 2, none⟩ = some (.int .i64 0) := (bk_cell A1.b2 2).trans rfl; have zf2 : w1.frozen? ⟨w.heap.size + 2, 2, none⟩ = false := bk_free A1.b2 2; have zc3 : w1.cell? ⟨w.heap.size + 2, 3, none⟩ = some (.slice none 0 0) := (bk_cell A1.b2 3).trans rfl; have zf3 : w1.frozen? ⟨w.heap.size + 2, 3, none⟩ = false := bk_free A1.b2 3; have zc4 : w1.cell? ⟨w.heap.size + 2, 4, none⟩ = some (.bool false) := (bk_cell A1.b2 4).trans rfl; have zf4 : w1.frozen? ⟨w.heap.size + 2, 4, none⟩ = false := bk_free A1.b2 4; have zc5 : w1.cell? ⟨w.heap.size + 2, 5, none⟩ = some (.bool false) := (bk_cell A1.b2 5).trans rfl; have zf5 : w1.frozen? ⟨w.heap.size + 2, 5, none⟩ = false := bk_free A1.b2 5; have zc6 : w1.cell? ⟨w.heap.size + 2, 6, none⟩ = some (.bool false) := (bk_cell A1.b2 6).trans rfl; have zf6 : w1.frozen? ⟨w.heap.size + 2, 6, none⟩ = false := bk_free A1.b2 6; have hsz : w.heap.size + 2 < w1.heap.size := A1.lt; have H1 : Hid _ := And.intro A1 (And.intro l1 (And.intro c1 o1)); clear A1 l1 c1 o1)
    go_meet
    have cS : Chg (fun t => t = w.heap.size + 2) w1 (put7 w1 (w.heap.size + 2) cd off (.slice ra n rc) s f bk) := put7_chg w1 (w.heap.size + 2) cd off (.slice ra n rc) s f bk
    exact ⟨rfl, _, ⟨(cS.block _ (by omega) (by omega)).trans H1.out.1.b1, put7_blk H1.out.1.b2 cd off (.slice ra n rc) s f bk⟩, H1.out.2.1.chg cS (fun t ht => ⟨H0.out.2.2.1 t (by omega), by omega⟩), ((Chg.of_below (w3_below w 7 a b _ fb)).trans H1.out.2.2.1).newS cS (fun t ht => by omega), ownsChg cS H1.out.2.2.2 (fun t ht e => by have t1 := (H1.out.2.2.2.lt t ht).1; omega)⟩
  case rest =>
  obtain ⟨rfl, rv, A1, l1, c1, o1⟩ := hcut
  obtain ⟨ra, rc, er⟩ := own_form o1
  rw [← H0.out.2.2.2.2] at er
  subst er
  have d1 := l1.c1
  rw [H0.out.2.2.2.1] at d1
  have xc0 : wc.cell? ⟨w.heap.size + 2, 0, none⟩ = some (.int .i64 cd) := (bk_cell A1.b2 0).trans rfl
  have xf0 : wc.frozen? ⟨w.heap.size + 2, 0, none⟩ = false := bk_free A1.b2 0
  have xc1 : wc.cell? ⟨w.heap.size + 2, 1, none⟩ = some (.int .i64 0) := (bk_cell A1.b2 1).trans rfl
  have xf1 : wc.frozen? ⟨w.heap.size + 2, 1, none⟩ = false := bk_free A1.b2 1
  have xc2 : wc.cell? ⟨w.heap.size + 2, 2, none⟩ = some (.int .i64 off) := (bk_cell A1.b2 2).trans rfl
  have xf2 : wc.frozen? ⟨w.heap.size + 2, 2, none⟩ = false := bk_free A1.b2 2
  have xc3 : wc.cell? ⟨w.heap.size + 2, 3, none⟩ = some (.slice ra n rc) := (bk_cell A1.b2 3).trans rfl
  have xf3 : wc.frozen? ⟨w.heap.size + 2, 3, none⟩ = false := bk_free A1.b2 3
  have xc4 : wc.cell? ⟨w.heap.size + 2, 4, none⟩ = some (.bool s) := (bk_cell A1.b2 4).trans rfl
  have xf4 : wc.frozen? ⟨w.heap.size + 2, 4, none⟩ = false := bk_free A1.b2 4
  have xc5 : wc.cell? ⟨w.heap.size + 2, 5, none⟩ = some (.bool f) := (bk_cell A1.b2 5).trans rfl
  have xf5 : wc.frozen? ⟨w.heap.size + 2, 5, none⟩ = false := bk_free A1.b2 5
  have xc6 : wc.cell? ⟨w.heap.size + 2, 6, none⟩ = some (.bool bk) := (bk_cell A1.b2 6).trans rfl
  have xf6 : wc.frozen? ⟨w.heap.size + 2, 6, none⟩ = false := bk_free A1.b2 6
  have yc0 : wc.cell? ⟨w.heap.size + 1, 0, none⟩ = some (.int .i64 0) := (bk_cell A1.b1 0).trans rfl
  have yf0 : wc.frozen? ⟨w.heap.size + 1, 0, none⟩ = false := bk_free A1.b1 0
  have yc1 : wc.cell? ⟨w.heap.size + 1, 1, none⟩ = some (.int .i64 0) := (bk_cell A1.b1 1).trans rfl
  have yf1 : wc.frozen? ⟨w.heap.size + 1, 1, none⟩ = false := bk_free A1.b1 1
  have yc2 : wc.cell? ⟨w.heap.size + 1, 2, none⟩ = some (.int .i64 0) := (bk_cell A1.b1 2).trans rfl
  have yf2 : wc.frozen? ⟨w.heap.size + 1, 2, none⟩ = false := bk_free A1.b1 2
  have yc3 : wc.cell? ⟨w.heap.size + 1, 3, none⟩ = some (.slice none 0 0) := (bk_cell A1.b1 3).trans rfl
  have yf3 : wc.frozen? ⟨w.heap.size + 1, 3, none⟩ = false := bk_free A1.b1 3
  have yc4 : wc.cell? ⟨w.heap.size + 1, 4, none⟩ = some (.bool false) := (bk_cell A1.b1 4).trans rfl
  have yf4 : wc.frozen? ⟨w.heap.size + 1, 4, none⟩ = false := bk_free A1.b1 4
  have yc5 : wc.cell? ⟨w.heap.size + 1, 5, none⟩ = some (.bool false) := (bk_cell A1.b1 5).trans rfl
  have yf5 : wc.frozen? ⟨w.heap.size + 1, 5, none⟩ = false := bk_free A1.b1 5
  have yc6 : wc.cell? ⟨w.heap.size + 1, 6, none⟩ = some (.bool false) := (bk_cell A1.b1 6).trans rfl
  have yf6 : wc.frozen? ⟨w.heap.size + 1, 6, none⟩ = false := bk_free A1.b1 6
  have hsz : w.heap.size + 2 < wc.heap.size := A1.lt
  have H1 : Hid _ := And.intro A1 (And.intro l1 (And.intro c1 o1))
  clear A1 l1 c1 o1
  go_wp2_with fail
  have cS : Chg (fun t => t = w.heap.size + 2 ∨ t = w.heap.size + 1) wc (putO (wc.setCell ⟨w.heap.size + 2, 1, none⟩ (.int .i64 st)) (w.heap.size + 1) cd st off (.slice ra n rc) s f bk) :=
    ((chg_of_eq wc).set' (w.heap.size + 2) 1 _ (Or.inl rfl)).trans ((putO_chg _ _ _ _ _ _ _ _ _).mono' (fun k _ e => Or.inr e))
  exact bodyPost_ret (v := .agg (so7s cd st off (.slice ra n rc) s f bk)) (results_cell_row (t := 43) rfl _ _ (w.heap.size + 1) _ (fr := (0, 0)) _ rfl (putO_blk ((bk_other (by omega) 1 _).trans H1.out.1.b1) cd st off (.slice ra n rc) s f bk) Tryd.underlying43 rfl infoSObs) rfl ⟨_, rfl, ownsChg cS H1.out.2.2.2 (fun t ht e => by have t1 := (H1.out.2.2.2.lt t ht).1; omega), H1.out.2.1.chg cS (fun t ht => ⟨H0.out.2.2.1 t (by omega), by omega⟩), H1.out.2.2.1.newS cS (fun t ht => by omega)⟩
end Go.Proofs.YtdkonhjbcgnfhaaDoor

namespace Go.Proofs.YtdkonhjbcgnfhaaDoor
open Go.RowKit
set_option linter.unusedVariables false
set_option linter.unusedSimpArgs false

set_option maxRecDepth 20000 in
set_option maxHeartbeats 4000000 in
theorem sop_else (g base : Nat) (D : Nat → Prop) (k a b : Int) (u : Value) (fb : Bool) (w : World) (m : SS) (hR : PRep w D g base m) (hk : ∀ j : Int, 1 ≤ j → j ≤ 8 → k ≠ j) :
    Calls Tryd.prog 18 #[.pointer (some ⟨g, 0, none⟩), .agg #[.int .i64 k, .int .i64 a, .int .i64 b, u, .bool fb]] w fun e w' => e = .returned (.agg (so7s 1 (m.st : Int) 0 (.slice none 0 0) false false false)) ∧ LeftS g base D (w.heap.size + 3) w' m (.slice none 0 0) ∧ Chg D w w' := by
  have e1 : (k == 1) = false := by have := hk 1 (by decide) (by decide); simpa using this
  have e2 : (k == 2) = false := by have := hk 2 (by decide) (by decide); simpa using this
  have e3 : (k == 3) = false := by have := hk 3 (by decide) (by decide); simpa using this
  have e4 : (k == 4) = false := by have := hk 4 (by decide) (by decide); simpa using this
  have e5 : (k == 5) = false := by have := hk 5 (by decide) (by decide); simpa using this
  have e6 : (k == 6) = false := by have := hk 6 (by decide) (by decide); simpa using this
  have e7 : (k == 7) = false := by have := hk 7 (by decide) (by decide); simpa using this
  have e8 : (k == 8) = false := by have := hk 8 (by decide) (by decide); simpa using this
  have d1 : (((w.alloc (.cells #[.int .i64 k, .int .i64 a, .int .i64 b, u, .bool fb] 45)).alloc (.cells #[.int .i64 0, .int .i64 0, .int .i64 0, .slice none 0 0, .bool false, .bool false, .bool false] 43)).alloc (.cells #[.int .i64 1, .int .i64 0, .int .i64 0, .slice none 0 0, .bool false, .bool false, .bool false] 43)).cell? ⟨g, 1, none⟩ = some (.int .i64 (m.st : Int)) := (LeftS.of0 (N := 0) (c := 0) (hR.below (w3_below w k a b u fb))).c1
  have hgl := hR.lt g hR.dg
  have H0 : Hid _ := And.intro hR True.intro
  obtain ⟨st, est⟩ : ∃ st : Int, st = (m.st : Int) := ⟨_, rfl⟩
  rw [← est] at d1
  rw [← est]
  clear hR hk est
  go_enter Tryd.func18, Tryd.ntmps18
  go_wp2_with fail
  have B : Below w.heap.size w (((w.alloc (opB k a b u fb)).alloc (.cells (so7s 1 st 0 (.slice none 0 0) false false false) 43)).alloc (.cells (so7s 1 st 0 (.slice none 0 0) false false false) 43)) := (((Below.refl _ _).alloc (Nat.le_refl _) _).alloc (by simp) _).alloc (by simp <;> omega) _
  exact bodyPost_ret (v := .agg (so7s 1 st 0 (.slice none 0 0) false false false)) (results_cell_row (t := 43) rfl _ _ (w.heap.size + 1) _ (fr := (0, 0)) _ rfl (bk_new3 w (opB k a b u fb) (.cells (so7s 1 st 0 (.slice none 0 0) false false false) 43) (.cells (so7s 1 st 0 (.slice none 0 0) false false false) 43)).2.1 Tryd.underlying43 rfl infoSObs) rfl ⟨rfl, LeftS.of0 (H0.out.1.below B), Chg.of_below B⟩
theorem PRep.shrink {w : World} {D : Nat → Prop} {g base : Nat} {m : SS} (h : PRep w D g base m) : g < w.heap.size := h.lt g h.dg
theorem runS (g base : Nat) (m : SS) (o : SSendOp) (u : Value) (D : Nat → Prop) (w : World) (hE : NE w D) (I : SI m) (I2 : SI2 m) (hcr : m.credit ≤ 9223372036854775807) (hR : PRep w D g base m) (hrow : Row w .u8 u o.f3) (hl : o.f3.length ≤ 140737488355328) (ho : o.f2 ≤ 9223372036854775807) (hbase : base ≤ w.heap.size) :
    Calls Tryd.prog 18 #[.pointer (some ⟨g, 0, none⟩), .agg #[.int .i64 o.f0, .int .i64 o.f1, .int .i64 o.f2, u, .bool o.f4]] w fun e w' => ∃ r, e = .returned (.agg (so7s (sstep m o).2.f0 (sstep m o).2.f1 (sstep m o).2.f2 r (sstep m o).2.f4 (sstep m o).2.f5 (sstep m o).2.f6)) ∧ w'.ownsRow (w.heap.size + 3) 5 1 r (sstep m o).2.f3.length ((sstep m o).2.f3.map (Value.int .u8)) ∧ LeftS g base D (w.heap.size + 3) w' (sstep m o).1 r ∧ Chg D w w' := by
  obtain ⟨k, a, b, X, fb⟩ := o
  dsimp only at *
  have hlt := hR.lt
  have hgl := hR.shrink
  have B3 := w3_below w k a b u fb
  have s3 := w3_size w k a b u fb
  have E3 := hE.below B3
  have R3 := hR.below B3
  have ofD : ∀ (M : SS) (w' : World), PRep w' D g base M → LeftS g base D (w.heap.size + 3) w' M (.slice none 0 0) := fun M w' h => LeftS.of0 h
  unfold sstep
  dsimp only
  have fin : ∀ (cd : Int) (M1 : SS) (S : SS × SSendObs), S = (M1, ⟨cd, M1.st, 0, [], false, false, false⟩) → (Calls Tryd.prog 18 #[.pointer (some ⟨g, 0, none⟩), .agg #[.int .i64 k, .int .i64 a, .int .i64 b, u, .bool fb]] w fun e w' => e = .returned (.agg (so7s cd (M1.st : Int) 0 (.slice none 0 0) false false false)) ∧ LeftS g base D (w.heap.size + 3) w' M1 (.slice none 0 0) ∧ Chg D w w') →
      Calls Tryd.prog 18 #[.pointer (some ⟨g, 0, none⟩), .agg #[.int .i64 k, .int .i64 a, .int .i64 b, u, .bool fb]] w fun e w' => ∃ r, e = .returned (.agg (so7s S.2.f0 S.2.f1 S.2.f2 r S.2.f4 S.2.f5 S.2.f6)) ∧ w'.ownsRow (w.heap.size + 3) 5 1 r S.2.f3.length (S.2.f3.map (Value.int .u8)) ∧ LeftS g base D (w.heap.size + 3) w' S.1 r ∧ Chg D w w' := fun cd M1 S e h => by
    rw [e]
    refine h.mono ?_
    rintro e w' ⟨rfl, l, c⟩
    exact ⟨_, rfl, World.ownsRow_nil _ _ _ _, l, c⟩
  by_cases h1 : k = 1
  · subst h1
    rw [if_pos rfl]
    obtain ⟨ua, uc, eu⟩ := hrow.form
    refine fin (swrite m X).2 (swrite m X).1 _ rfl (sop_write g base D a b u fb w _ _ _ rfl hgl hlt ua X.length uc eu ?_)
    rw [← eu]
    refine (writeP g base m u X D _ E3 I R3 (hrow.below B3) hl (by omega)).mono ?_
    rintro e w' ⟨rfl, r, c⟩
    exact ⟨rfl, ⟨_, r, fun t ht => ht.imp id (fun z => ⟨by omega, z.2⟩), fun t ht => nomatch ht⟩, c⟩
  rw [if_neg h1]
  by_cases h2 : k = 2
  · subst h2
    rw [if_pos rfl]
    refine fin (sfinish m).2 (sfinish m).1 _ rfl (sop_fin g base D a b u fb w _ _ _ rfl hgl hlt ?_)
    refine (finishP g base m D _ E3 I R3).mono ?_
    rintro e w' ⟨rfl, r, c⟩
    exact ⟨rfl, ofD _ _ r, c⟩
  rw [if_neg h2]
  by_cases h3 : k = 3
  · subst h3
    rw [if_pos rfl]
    refine fin (scredit m b).2 (scredit m b).1 _ rfl (sop_grant g base D a b u fb w _ _ _ rfl hgl hlt ?_)
    refine (grantP g base m b D _ R3).mono ?_
    rintro e w' ⟨rfl, r, c⟩
    exact ⟨rfl, ofD _ _ r, c⟩
  rw [if_neg h3]
  by_cases h4 : k = 4
  · subst h4
    rw [if_pos rfl]
    by_cases hb : b < 1 ∨ 1500 < b
    · rw [if_pos hb]
      refine sop_pull g base D a b u fb w 1 0 _ (.slice none 0 0) false false false m rfl hgl hlt [] ?_
      refine (pullI_bad g b _ hb).mono ?_
      rintro e w' ⟨rfl, bw⟩
      exact ⟨_, rfl, World.ownsRow_nil _ _ _ _, ofD _ _ (R3.below bw), Chg.of_below bw⟩
    · rw [if_neg hb]
      obtain ⟨n, rfl⟩ : ∃ n : Nat, b = (n : Int) := ⟨b.toNat, by omega⟩
      rw [Int.toNat_natCast]
      refine sop_pull g base D a n u fb w 0 _ _ (.slice none 0 0) _ _ _ (spull m n).1 rfl hgl hlt (spull m n).2.2.1 ?_
      refine (pullI g base n m D _ E3 I R3 (by omega) (by omega) hcr).mono ?_
      rintro e w' ⟨r, rfl, o1, r1, c1⟩
      exact ⟨_, rfl, owns_mono o1 (by omega), LeftS.of r1 (fun t ht e => by have t1 := (o1.lt t ht).1; have t2 := hlt t e; omega), c1⟩
  rw [if_neg h4]
  by_cases h5 : k = 5
  · subst h5
    rw [if_pos rfl]
    refine fin (shear m a b fb 2).2 (shear m a b fb 2).1 _ rfl (sop_ack g base D a b u fb w _ _ _ rfl hgl hlt ?_)
    refine (hearP g base m a b fb 2 (Or.inl rfl) D _ E3 I I2 R3 ho).mono ?_
    rintro e w' ⟨rfl, r, c⟩
    exact ⟨rfl, ofD _ _ r, c⟩
  rw [if_neg h5]
  by_cases h6 : k = 6
  · subst h6
    rw [if_pos rfl]
    refine fin (shear m a b fb 3).2 (shear m a b fb 3).1 _ rfl (sop_lost g base D a b u fb w _ _ _ rfl hgl hlt ?_)
    refine (hearP g base m a b fb 3 (Or.inr rfl) D _ E3 I I2 R3 ho).mono ?_
    rintro e w' ⟨rfl, r, c⟩
    exact ⟨rfl, ofD _ _ r, c⟩
  rw [if_neg h6]
  by_cases h7 : k = 7
  · subst h7
    rw [if_pos rfl]
    have RP := resetP g base m D _ E3 I R3
    cases hv : m.live
    · rw [hv, if_neg (by decide), if_neg (by decide)] at RP
      rw [if_neg (by decide)]
      refine sop_reset g base D a b u fb w 7 0 _ (.slice none 0 0) false false false m rfl hgl hlt [] ?_
      refine RP.mono ?_
      rintro e w' ⟨rfl, r, c⟩
      exact ⟨_, rfl, World.ownsRow_nil _ _ _ _, ofD _ _ r, c⟩
    · rw [hv, if_pos rfl, if_pos rfl] at RP
      rw [if_pos rfl]
      refine sop_reset g base D a b u fb w 0 _ _ (.slice none 0 0) false false false { m with st := 4 } rfl hgl hlt [] ?_
      refine RP.mono ?_
      rintro e w' ⟨rfl, r, c⟩
      exact ⟨_, rfl, World.ownsRow_nil _ _ _ _, ofD _ _ r, c⟩
  rw [if_neg h7]
  by_cases h8 : k = 8
  · subst h8
    rw [if_pos rfl]
    have RA := resetAckedP g base m D _ E3 I R3
    by_cases hv : m.st = 4
    · rw [if_pos hv, if_pos hv] at RA
      rw [if_pos hv]
      refine fin 0 { m with st := 5 } _ rfl (sop_racked g base D a b u fb w _ _ _ rfl hgl hlt ?_)
      refine RA.mono ?_
      rintro e w' ⟨rfl, r, c⟩
      exact ⟨rfl, ofD _ _ r, c⟩
    · rw [if_neg hv, if_neg hv] at RA
      rw [if_neg hv]
      refine fin 7 m _ rfl (sop_racked g base D a b u fb w _ _ _ rfl hgl hlt ?_)
      refine RA.mono ?_
      rintro e w' ⟨rfl, r, c⟩
      exact ⟨rfl, ofD _ _ r, c⟩
  rw [if_neg h8]
  exact fin 1 m _ rfl (sop_else g base D k a b u fb w m hR (fun j j1 j8 e => by omega))
end Go.Proofs.YtdkonhjbcgnfhaaDoor

namespace Go.Proofs.YtdkonhjbcgnfhaaDoor
open Go.RowKit
set_option linter.unusedVariables false
set_option linter.unusedSimpArgs false

/-- Behind k operations. -/
structure RunK (g base : Nat) (R : List SSendOp) (w0 wr : World) (N n k : Nat) (zs : List Value) (U : Nat → Value) (D : Nat → Prop) : Prop where
  zl : zs.length = n * 7
  ow : wr.ownsRow N 43 7 (.slice (some ⟨N, 0, none⟩) n n) n zs
  cs : ∀ j, j < k → ∀ f, f < 7 → zs[j * 7 + f]? = ((sstep (srun R j).1 (R.getD j default)).2.c (U j))[f]?
  inn : ∀ j, j < k → wr.ownsRow (N + 1) 5 1 (U j) (sstep (srun R j).1 (R.getD j default)).2.d.length ((sstep (srun R j).1 (R.getD j default)).2.d.map (Value.int .u8))
  ap : ∀ (i j : Nat), i < j → j < k → ∀ t, (U j).ownBlock = some t → some t ≠ (U i).ownBlock
  rep : PRep wr D g base (srun R k).1
  env : NE wr D
  dr : ¬ D N
  du : ∀ j, j < k → ∀ t, (U j).ownBlock = some t → ¬ D t
  db : ∀ t, D t → w0.heap.size ≤ t
  bw : Below w0.heap.size w0 wr
def RunKI (g base : Nat) (R : List SSendOp) (w0 wr : World) (N n k : Nat) : Prop := ∃ zs U D, RunK g base R w0 wr N n k zs U D
/-- One more. -/
theorem RunK.next {g base N n k : Nat} {R : List SSendOp} {w0 wr w2 : World} {zs : List Value} {U : Nat → Value} {D : Nat → Prop} (h : RunK g base R w0 wr N n k zs U D) (hk : k < n) (hN : w0.heap.size ≤ N) (h0t : 0 < w0.heap.size)
    (S : SS × SSendObs) (eS : S = sstep (srun R k).1 (R.getD k default)) (r : Value) (q0 q1 q2 : Int) (q4 q5 q6 : Bool) (eq0 : q0 = S.2.f0) (eq1 : q1 = S.2.f1) (eq2 : q2 = S.2.f2) (eq4 : q4 = S.2.f4) (eq5 : q5 = S.2.f5) (eq6 : q6 = S.2.f6)
    (cA : Chg D wr w2) (l2 : LeftS g base D wr.heap.size w2 S.1 r) (or2 : w2.ownsRow wr.heap.size 5 1 r S.2.f3.length (S.2.f3.map (Value.int .u8))) :
    RunKI g base R w0 (((((((w2.setCell ⟨N, k * 7, none⟩ (.int .i64 q0)).setCell ⟨N, k * 7 + 1, none⟩ (.int .i64 q1)).setCell ⟨N, k * 7 + 2, none⟩ (.int .i64 q2)).setCell ⟨N, k * 7 + 3, none⟩ r).setCell ⟨N, k * 7 + 4, none⟩ (.bool q4)).setCell ⟨N, k * 7 + 5, none⟩ (.bool q5)).setCell ⟨N, k * 7 + 6, none⟩ (.bool q6)) N n (k + 1) := by
  obtain ⟨zl, ow, cs, inn, ap, rep, env, dr, du, db, bw⟩ := h
  obtain ⟨D1, r2, hD1, hrr⟩ := l2
  have hlt := rep.lt
  have hNl : N < wr.heap.size := (ow.lt N rfl).2
  have hz2 := cA.size
  have ow2 : w2.ownsRow N 43 7 (.slice (some ⟨N, 0, none⟩) n n) n zs := ownsChg cA ow (fun t ht e => by simp [Value.ownBlock] at ht; subst ht; exact dr e)
  have h0 : Chg (fun t => t = N) w2 w2 := chg_of_eq w2
  have cX := (((((((h0.set' N (k * 7) (.int .i64 q0) rfl).set' N (k * 7 + 1) (.int .i64 q1) rfl).set' N (k * 7 + 2) (.int .i64 q2) rfl).set' N (k * 7 + 3) r rfl).set' N (k * 7 + 4) (.bool q4) rfl).set' N (k * 7 + 5) (.bool q5) rfl).set' N (k * 7 + 6) (.bool q6) rfl)
  have dN : ¬ D1 N := fun e => (hD1 N e).elim dr (fun z => by omega)
  have sN : ∀ t, D1 t → ¬ (t = N) := fun t ht e => dN (by rw [← e]; exact ht)
  have e1 : (srun R (k + 1)).1 = S.1 := by rw [eS]; rfl
  have inn2 : ∀ j, j < k → w2.ownsRow (N + 1) 5 1 (U j) (sstep (srun R j).1 (R.getD j default)).2.d.length ((sstep (srun R j).1 (R.getD j default)).2.d.map (Value.int .u8)) := fun j hj => ownsChg cA (inn j hj) (fun t ht e => du j hj t ht e)
  refine ⟨(((((((zs.set (k * 7) (.int .i64 q0)).set (k * 7 + 1) (.int .i64 q1)).set (k * 7 + 2) (.int .i64 q2)).set (k * 7 + 3) r).set (k * 7 + 4) (.bool q4)).set (k * 7 + 5) (.bool q5)).set (k * 7 + 6) (.bool q6)), fun j => if j = k then r else U j, D1, ⟨by simp only [List.length_set]; exact zl, (((((((ow2.stored (k * 7) _).1.stored (k * 7 + 1) _).1.stored (k * 7 + 2) _).1.stored (k * 7 + 3) _).1.stored (k * 7 + 4) _).1.stored (k * 7 + 5) _).1.stored (k * 7 + 6) _).1, fun j hj f hf => ?_, fun j hj => ?_, fun i j hij hj t ht => ?_, ?_, ?_, dN, fun j hj t ht => ?_, fun t ht => ?_, ?_⟩⟩
  · by_cases hjk : j = k
    · subst hjk
      rw [if_pos rfl, ← eS]
      unfold SSendObs.c
      rw [← eq0, ← eq1, ← eq2, ← eq4, ← eq5, ← eq6]
      obtain rfl | rfl | rfl | rfl | rfl | rfl | rfl : f = 0 ∨ f = 1 ∨ f = 2 ∨ f = 3 ∨ f = 4 ∨ f = 5 ∨ f = 6 := by omega
      · rw [show j * 7 + 0 = j * 7 from rfl, List.getElem?_set_ne (by omega), List.getElem?_set_ne (by omega), List.getElem?_set_ne (by omega), List.getElem?_set_ne (by omega), List.getElem?_set_ne (by omega), List.getElem?_set_ne (by omega), List.getElem?_set_self (by first | omega | (simp only [List.length_set]; omega))]; rfl
      · rw [List.getElem?_set_ne (by omega), List.getElem?_set_ne (by omega), List.getElem?_set_ne (by omega), List.getElem?_set_ne (by omega), List.getElem?_set_ne (by omega), List.getElem?_set_self (by first | omega | (simp only [List.length_set]; omega))]; rfl
      · rw [List.getElem?_set_ne (by omega), List.getElem?_set_ne (by omega), List.getElem?_set_ne (by omega), List.getElem?_set_ne (by omega), List.getElem?_set_self (by first | omega | (simp only [List.length_set]; omega))]; rfl
      · rw [List.getElem?_set_ne (by omega), List.getElem?_set_ne (by omega), List.getElem?_set_ne (by omega), List.getElem?_set_self (by first | omega | (simp only [List.length_set]; omega))]; rfl
      · rw [List.getElem?_set_ne (by omega), List.getElem?_set_ne (by omega), List.getElem?_set_self (by first | omega | (simp only [List.length_set]; omega))]; rfl
      · rw [List.getElem?_set_ne (by omega), List.getElem?_set_self (by first | omega | (simp only [List.length_set]; omega))]; rfl
      · rw [List.getElem?_set_self (by first | omega | (simp only [List.length_set]; omega))]; rfl
    · have u := cs j (by omega) f hf
      rw [if_neg hjk, List.getElem?_set_ne (by omega), List.getElem?_set_ne (by omega), List.getElem?_set_ne (by omega), List.getElem?_set_ne (by omega), List.getElem?_set_ne (by omega), List.getElem?_set_ne (by omega), List.getElem?_set_ne (by omega)]; exact u
  · by_cases hjk : j = k
    · rw [if_pos hjk, hjk, ← eS]
      exact owns_mono (ownsChg cX or2 (fun t ht e => by have := (or2.lt t ht).1; have e : t = N := e; omega)) (by omega)
    · rw [if_neg hjk]
      exact ownsChg cX (inn2 j (by omega)) (fun t ht e => by have := ((inn2 j (by omega)).lt t ht).1; have e : t = N := e; omega)
  · by_cases hjk : j = k
    · subst hjk
      rw [if_pos rfl] at ht
      rw [if_neg (by omega)]
      intro e
      have a1 := ((inn i hij).lt t e.symm).2
      have a2 := (or2.lt t ht).1
      omega
    · rw [if_neg hjk] at ht
      rw [if_neg (by omega)]
      exact ap i j hij (by omega) t ht
  · rw [e1]
    exact r2.chg cX sN
  · have en : NE w2 D := env.chg cA
    have hsz := bw.size
    exact ⟨en.tab.chg cX en.t0 (fun e => by have e : 0 = N := e; omega), Nat.lt_of_lt_of_le en.t0 cX.size, fun e => (hD1 _ e).elim en.tn (fun z => by omega)⟩
  · by_cases hjk : j = k
    · rw [if_pos hjk] at ht
      exact hrr t ht
    · rw [if_neg hjk] at ht
      intro e
      rcases hD1 t e with z | z
      · exact du j (by omega) t ht z
      · have := ((inn j (by omega)).lt t ht).2; omega
  · rcases hD1 t ht with z | z
    · exact db t z
    · have := bw.size; omega
  · have B1 : Below w0.heap.size wr w2 := ⟨cA.os, cA.tape, cA.output, cA.size, fun t ht => cA.block t (by have := bw.size; omega) (fun e => by have := db t e; omega)⟩
    have B2 : Below w0.heap.size w2 _ := ⟨cX.os, cX.tape, cX.output, cX.size, fun t ht => cX.block t (by have := bw.size; omega) (fun e => by have e : t = N := e; omega)⟩
    exact (bw.trans B1).trans B2
end Go.Proofs.YtdkonhjbcgnfhaaDoor

namespace Go.Proofs.YtdkonhjbcgnfhaaDoor
open Go.RowKit
set_option linter.unusedVariables false
set_option linter.unusedSimpArgs false

set_option maxRecDepth 20000 in
set_option maxHeartbeats 4000000 in
theorem runAllS (g : Nat) (v : Value) (R : List SSendOp) (w0 w : World) (D0 : Nat → Prop) (hbel : Below w0.heap.size w0 w) (row : BRow 5 SSendOp.c SSendOp.d w0 v R) (hn : R.length ≤ 400)
    (hd : ∀ j, j < R.length → (R.getD j default).d.length ≤ 140737488355328) (hof : ∀ j, j < R.length → (R.getD j default).f2 ≤ 9223372036854775807) (hE : NE w D0) (hR : PRep w D0 g w0.heap.size (srun R 0).1) (hD0 : ∀ t, D0 t → w0.heap.size ≤ t) (h0 : 0 < w0.heap.size) :
    Calls Tryd.prog 16 #[v, .func (.func 18) #[.pointer (some ⟨g, 0, none⟩)] #[]] w fun e w' => ∃ r, e = .returned r ∧ BOwns 43 7 SSendObs.c SSendObs.d w' w0.heap.size r (srun R R.length).2 ∧ Below w0.heap.size w0 w' := by
  obtain ⟨ao, cp, ev⟩ := row.form
  obtain ⟨i0, hi, hz0, hz1, hz2⟩ := info_parts infoSendObs
  obtain ⟨n, en⟩ : ∃ n, n = R.length := ⟨_, rfl⟩
  have HH : Hid _ := And.intro row (And.intro hd (And.intro hof (And.intro hE (And.intro hR (And.intro hbel (And.intro en (And.intro hD0 h0)))))))
  have hbz := hbel.size
  rw [← en] at hn ⊢
  rw [← en] at ev
  subst ev
  clear row hd hof hE hR en hbel hD0 h0
  go_enter Tryd.func16, Tryd.ntmps16
  go_wp2_with (at_make; refine wpList_make_full _ rfl _ _ 24 rfl w.heap.size 43 i0 (.agg #[.int .i64 0, .int .i64 0, .int .i64 0, .slice none 0 0, .bool false, .bool false, .bool false]) 7 Tryd.underlying24 hi hz0 hz1 .i64 .i64 (n : Int) (n : Int) n rfl rfl rfl rfl (by rw [hz2]; omega) (by unfold maxLen; omega) (Nat.le_refl _) ?_; intro w1 hown hg)
  have H1 : Hid _ := And.intro hown ((Below.refl w.heap.size w).grown hg (Nat.le_refl _) (by intro k hk; cases hk))
  clear hown hg
  go_loopg [13] n (fun q i wr => ∃ k : Nat, k ≤ n ∧ q = n - k ∧ i = .int .i64 (k : Int) ∧ RunKI g w0.heap.size R w0 wr w.heap.size n k)
  case atStart =>
    obtain ⟨-, -, -, hE, hR, hbel, e0, hD0, h0⟩ := HH.out
    have hlt := hR.lt
    refine ⟨0, by omega, by omega, rfl, _, fun _ => .slice none 0 0, D0, by have := H1.out.1.1; simpa using this, H1.out.1, fun j hj => by omega, fun j hj => by omega, fun i j _ hj => by omega, hR.below H1.out.2, hE.below H1.out.2, fun e => by have := hlt _ e; omega, fun j hj => by omega, hD0, hbel.trans (H1.out.2.mono hbel.size)⟩
  case round =>
    obtain ⟨k, hk, hq, rfl, zs, U, D, H2⟩ := hrel
    by_cases hlt : k < n
    · obtain ⟨b, off, cap, ev, hbl, U0, hc, hr⟩ := HH.out.1.at' (by have := HH.out.2.2.2.2.2.2.1; omega)
      simp only [Value.slice.injEq] at ev
      obtain ⟨rfl, em2, rfl⟩ := ev
      clear em2
      have e0 := HH.out.2.2.2.2.2.2.1
      have hck := hc k (by omega)
      obtain ⟨uk, euk⟩ : ∃ u, u = U0 k := ⟨_, rfl⟩
      have hrk := (hr k (by omega)).below H2.bw
      rw [← euk] at hck hrk
      have hgl : w.heap.size < wr.heap.size := (H2.ow.lt w.heap.size rfl).2
      obtain ⟨o, eo⟩ : ∃ o, o = R.getD k default := ⟨_, rfl⟩
      have hdk := HH.out.2.1 k (by omega)
      have hfk := HH.out.2.2.1 k (by omega)
      rw [← eo] at hck hrk hdk hfk
      have c0 : wr.cell? ⟨b, off + k * 5, none⟩ = some (.int .i64 o.f0) := (H2.bw.cell (p := ⟨b, off + (k * 5 + 0), none⟩) hbl).trans (hck 0 (by omega))
      have c1 : wr.cell? ⟨b, off + k * 5 + 1, none⟩ = some (.int .i64 o.f1) := (H2.bw.cell (p := ⟨b, off + (k * 5 + 1), none⟩) hbl).trans (hck 1 (by omega))
      have c2 : wr.cell? ⟨b, off + k * 5 + 2, none⟩ = some (.int .i64 o.f2) := (H2.bw.cell (p := ⟨b, off + (k * 5 + 2), none⟩) hbl).trans (hck 2 (by omega))
      have c3 : wr.cell? ⟨b, off + k * 5 + 3, none⟩ = some (uk) := (H2.bw.cell (p := ⟨b, off + (k * 5 + 3), none⟩) hbl).trans (hck 3 (by omega))
      have c4 : wr.cell? ⟨b, off + k * 5 + 4, none⟩ = some (.bool o.f4) := (H2.bw.cell (p := ⟨b, off + (k * 5 + 4), none⟩) hbl).trans (hck 4 (by omega))
      have BA : Below wr.heap.size wr (wr.alloc (.cells #[.int .i64 o.f0, .int .i64 o.f1, .int .i64 o.f2, uk, .bool o.f4] 45)) := (Below.refl _ _).alloc (Nat.le_refl _) _
      have hcr := srun_cr R (fun j hj => HH.out.2.2.1 j hj) k (by omega)
      have C := runS g w0.heap.size (srun R k).1 o uk D _ (H2.env.below BA) (srun_SI R k) (srun_SI2 R k) hcr (H2.rep.below BA) (hrk.below BA) hdk hfk (by have := H2.bw.size; have := BA.size; omega)
      obtain ⟨ua, uc, eu⟩ := hrk.form
      obtain ⟨un, eun⟩ : ∃ un, un = o.d.length := ⟨_, rfl⟩
      rw [← eun] at eu
      have H4 : Hid _ := And.intro C (And.intro eo BA)
      clear C hck hrk hc hr euk eo eun e0 hcr
      obtain ⟨x0, x1, x2, x3, x4⟩ := o
      subst eu
      dsimp only at *
      have H2H : Hid _ := And.intro H2 True.intro
      clear H2
      go_wp2_with fail
      refine H4.out.1.mono ?_
      rintro e w2 ⟨r, rfl, or2, l2, ch2⟩
      obtain ⟨S, eS⟩ : ∃ S, S = sstep (srun R k).1 ⟨x0, x1, x2, x3, x4⟩ := ⟨_, rfl⟩
      rw [← eS] at or2 l2
      rw [← eS]
      have chA : Chg D wr w2 := (Chg.of_below H4.out.2.2).trans ch2
      have ow2 : w2.ownsRow w.heap.size 43 7 (.slice (some ⟨w.heap.size, 0, none⟩) n n) n zs := ownsChg chA H2H.out.1.ow (fun t ht e => by simp [Value.ownBlock] at ht; subst ht; exact H2H.out.1.dr e)
      have h2z := chA.size
      obtain ⟨aor, cpr, hrr⟩ := (row_of_owns or2).form
      obtain ⟨rn, ern⟩ : ∃ rn, rn = S.2.f3.length := ⟨_, rfl⟩
      rw [← ern] at hrr
      obtain ⟨q0, eq0⟩ : ∃ x, x = S.2.f0 := ⟨_, rfl⟩
      obtain ⟨q1, eq1⟩ : ∃ x, x = S.2.f1 := ⟨_, rfl⟩
      obtain ⟨q2, eq2⟩ : ∃ x, x = S.2.f2 := ⟨_, rfl⟩
      obtain ⟨q4, eq4⟩ : ∃ x, x = S.2.f4 := ⟨_, rfl⟩
      obtain ⟨q5, eq5⟩ : ∃ x, x = S.2.f5 := ⟨_, rfl⟩
      obtain ⟨q6, eq6⟩ : ∃ x, x = S.2.f6 := ⟨_, rfl⟩
      rw [← eq0, ← eq1, ← eq2, ← eq4, ← eq5, ← eq6]
      have d0 : k * 7 < n * 7 := by omega
      have s0 : w2.cell? ⟨w.heap.size, k * 7, none⟩ = zs[k * 7]? := ow2.cellAt (k * 7) d0
      obtain ⟨z0, hz0'⟩ : ∃ z, zs[k * 7]? = some z := ⟨zs[k * 7]'(by have := H2H.out.1.zl; omega), by simp [H2H.out.1.zl, d0]⟩
      rw [hz0'] at s0
      have f0 := ow2.frozenAt (k * 7)
      have d1 : k * 7 + 1 < n * 7 := by omega
      have s1 : w2.cell? ⟨w.heap.size, k * 7 + 1, none⟩ = zs[k * 7 + 1]? := ow2.cellAt (k * 7 + 1) d1
      obtain ⟨z1, hz1'⟩ : ∃ z, zs[k * 7 + 1]? = some z := ⟨zs[k * 7 + 1]'(by have := H2H.out.1.zl; omega), by simp [H2H.out.1.zl, d1]⟩
      rw [hz1'] at s1
      have f1 := ow2.frozenAt (k * 7 + 1)
      have d2 : k * 7 + 2 < n * 7 := by omega
      have s2 : w2.cell? ⟨w.heap.size, k * 7 + 2, none⟩ = zs[k * 7 + 2]? := ow2.cellAt (k * 7 + 2) d2
      obtain ⟨z2, hz2'⟩ : ∃ z, zs[k * 7 + 2]? = some z := ⟨zs[k * 7 + 2]'(by have := H2H.out.1.zl; omega), by simp [H2H.out.1.zl, d2]⟩
      rw [hz2'] at s2
      have f2 := ow2.frozenAt (k * 7 + 2)
      have d3 : k * 7 + 3 < n * 7 := by omega
      have s3 : w2.cell? ⟨w.heap.size, k * 7 + 3, none⟩ = zs[k * 7 + 3]? := ow2.cellAt (k * 7 + 3) d3
      obtain ⟨z3, hz3'⟩ : ∃ z, zs[k * 7 + 3]? = some z := ⟨zs[k * 7 + 3]'(by have := H2H.out.1.zl; omega), by simp [H2H.out.1.zl, d3]⟩
      rw [hz3'] at s3
      have f3 := ow2.frozenAt (k * 7 + 3)
      have d4 : k * 7 + 4 < n * 7 := by omega
      have s4 : w2.cell? ⟨w.heap.size, k * 7 + 4, none⟩ = zs[k * 7 + 4]? := ow2.cellAt (k * 7 + 4) d4
      obtain ⟨z4, hz4'⟩ : ∃ z, zs[k * 7 + 4]? = some z := ⟨zs[k * 7 + 4]'(by have := H2H.out.1.zl; omega), by simp [H2H.out.1.zl, d4]⟩
      rw [hz4'] at s4
      have f4 := ow2.frozenAt (k * 7 + 4)
      have d5 : k * 7 + 5 < n * 7 := by omega
      have s5 : w2.cell? ⟨w.heap.size, k * 7 + 5, none⟩ = zs[k * 7 + 5]? := ow2.cellAt (k * 7 + 5) d5
      obtain ⟨z5, hz5'⟩ : ∃ z, zs[k * 7 + 5]? = some z := ⟨zs[k * 7 + 5]'(by have := H2H.out.1.zl; omega), by simp [H2H.out.1.zl, d5]⟩
      rw [hz5'] at s5
      have f5 := ow2.frozenAt (k * 7 + 5)
      have d6 : k * 7 + 6 < n * 7 := by omega
      have s6 : w2.cell? ⟨w.heap.size, k * 7 + 6, none⟩ = zs[k * 7 + 6]? := ow2.cellAt (k * 7 + 6) d6
      obtain ⟨z6, hz6'⟩ : ∃ z, zs[k * 7 + 6]? = some z := ⟨zs[k * 7 + 6]'(by have := H2H.out.1.zl; omega), by simp [H2H.out.1.zl, d6]⟩
      rw [hz6'] at s6
      have f6 := ow2.frozenAt (k * 7 + 6)
      have sz1 : wr.heap.size ≤ (wr.alloc (.cells #[.int .i64 x0, .int .i64 x1, .int .i64 x2, .slice ua un uc, .bool x4] 45)).heap.size + 3 := by simp; omega
      have H3 : Hid _ := And.intro (owns_mono or2 sz1) (And.intro (l2.mono sz1) chA)
      have HQ : Hid _ := And.intro eq0 (And.intro eq1 (And.intro eq2 (And.intro eq4 (And.intro eq5 (And.intro eq6 (And.intro eS hrr))))))
      clear ow2 or2 l2 chA ch2 eq0 eq1 eq2 eq4 eq5 eq6 eS ern hz0' hz1' hz2' hz3' hz4' hz5' hz6' sz1
      subst hrr
      go_wp2
      go_roundg (n - (k + 1))
      case measure => omega
      case rel =>
        obtain ⟨eq0, eq1, eq2, eq4, eq5, eq6, eS, -⟩ := HQ.out
        rw [H4.out.2.1] at eS
        exact ⟨k + 1, by omega, rfl, by go_num, RunK.next H2H.out.1 hlt hbz HH.out.2.2.2.2.2.2.2.2 S eS _ q0 q1 q2 q4 q5 q6 eq0 eq1 eq2 eq4 eq5 eq6 H3.out.2.2 H3.out.2.1 H3.out.1⟩
    · obtain rfl : k = n := by omega
      have H2H : Hid _ := And.intro H2 True.intro
      clear H2
      go_wp2
      go_ret
      have e0 := HH.out.2.2.2.2.2.2.1
      obtain ⟨zl, ow, cs, inn, ap, rep, env, dr, du, db, bw⟩ := H2H.out.1
      refine ⟨_, rfl, ⟨U, ⟨zs, by rw [zl_length, srun_length]; exact owns_mono ow hbz, fun j hj f hf => ?_⟩, fun j hj => ?_, fun i j hij hj => ap i j hij (by rw [srun_length] at hj; exact hj)⟩, bw⟩
      · rw [zl_length, srun_length] at hj
        rw [zl_at _ _ _ _ (by rw [srun_length]; exact hj), srun_at R j k hj]
        exact cs j hj f hf
      · rw [srun_length] at hj
        rw [srun_at R j k hj]
        exact owns_mono (inn j hj) (by omega)
set_option maxRecDepth 20000 in
set_option maxHeartbeats 1000000 in
theorem newS (w : World) :
    Calls Tryd.prog 17 #[] w fun e w' => e = .returned (.pointer (some ⟨w.heap.size, 0, none⟩)) ∧ PRep w' (fun t => t = w.heap.size) w.heap.size w.heap.size ⟨0, 0, 0, 0, false, [], []⟩ ∧ Below w.heap.size w w' := by
  go_enter Tryd.func17, Tryd.ntmps17
  go_wp2
  go_ret
  refine ⟨rfl, ⟨.slice none 0 0, .slice none 0 0, heap_alloc_new w _, ⟨World.ownsRow_nil _ _ _ _, World.ownsRow_nil _ _ _ _, rfl, (fun t ht => nomatch ht), (fun t ht => nomatch ht), fun t (ht : t = w.heap.size) => by rw [ht]; simp, Nat.le_refl _⟩⟩, (Below.refl _ _).alloc (Nat.le_refl _) _⟩
/-- What SendRun answers. -/
def srY (R : List SSendOp) : List SSendObs := if 400 < R.length then [] else (srun R R.length).2
def srC (R : List SSendOp) : Int := if 400 < R.length then 4 else 0
set_option maxRecDepth 20000 in
set_option maxHeartbeats 1000000 in
theorem implSR (v : Value) (R : List SSendOp) (w : World) (ht : TabF w) (h0 : 0 < w.heap.size) (row : BRow 5 SSendOp.c SSendOp.d w v R) (hl : R.length ≤ 140737488355328)
    (hd : ∀ j, j < R.length → (R.getD j default).d.length ≤ 140737488355328) (hof : ∀ j, j < R.length → (R.getD j default).f2 ≤ 9223372036854775807) :
    Calls Tryd.prog 7 #[v] w fun e w' => ∃ r, e = .returned (.tuple #[r, .int .i64 (srC R)]) ∧ BOwns 43 7 SSendObs.c SSendObs.d w' w.heap.size r (srY R) ∧ Below w.heap.size w w' := by
  obtain ⟨ao, cp, ev⟩ := row.form
  by_cases a1 : 400 < R.length
  · have e1 : srC R = 4 := by unfold srC; rw [if_pos a1]
    have e2 : srY R = [] := by unfold srY; rw [if_pos a1]
    rw [e1, e2, ev]
    have a1' : (400 : Int) < (R.length : Int) := by omega
    generalize R.length = n at *
    clear row hd hof
    go_enter Tryd.func7, Tryd.ntmps7
    go_wp2
    go_ret2
    exact ⟨_, rfl, BOwns.nilB _ _ _ _ _ _, Below.refl _ _⟩
  have e1 : srC R = 0 := by unfold srC; rw [if_neg a1]
  have e2 : srY R = (srun R R.length).2 := by unfold srY; rw [if_neg a1]
  rw [e1, e2]
  have C := newS w
  have C2 : ∀ w1 : World, PRep w1 (fun t => t = w.heap.size) w.heap.size w.heap.size ⟨0, 0, 0, 0, false, [], []⟩ → Below w.heap.size w w1 → Calls Tryd.prog 16 #[v, .func (.func 18) #[.pointer (some ⟨w.heap.size, 0, none⟩)] #[]] w1 fun e w' => ∃ r, e = .returned r ∧ BOwns 43 7 SSendObs.c SSendObs.d w' w.heap.size r (srun R R.length).2 ∧ Below w.heap.size w w' := fun w1 hr hb =>
    runAllS w.heap.size v R w w1 (fun t => t = w.heap.size) hb row (by omega) hd hof ⟨ht.below hb h0, Nat.lt_of_lt_of_le h0 hb.size, fun e => by have e : 0 = w.heap.size := e; omega⟩ hr (fun t ht => by have e : t = w.heap.size := ht; omega) h0
  have a1' : ¬ (400 : Int) < (R.length : Int) := by omega
  have HH : Hid _ := And.intro C C2
  rw [ev] at HH ⊢
  generalize (srun R R.length).2 = Y at *
  generalize R.length = n at *
  clear row hd hof C C2 e1 e2 ev ht h0 hl
  go_enter Tryd.func7, Tryd.ntmps7
  go_wp2_with (first | (go_at_call 17; refine HH.out.1.mono ?_; rintro e w1 ⟨rfl, r1, b1⟩) | (go_at_call 16; refine (HH.out.2 _ r1 b1).mono ?_; rintro e w2 ⟨r, rfl, o2, b2⟩))
  go_ret2
  exact ⟨_, rfl, o2, b2⟩
end Go.Proofs.YtdkonhjbcgnfhaaDoor
