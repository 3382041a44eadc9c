import Derived.Test.YtpdclbfjngmppaaDoorBkQ
import Derived.Test.YtpdclbfjngmppaaDoorBkR
import Derived.Deep.LoopGhost
import Derived.Deep.CutBlock
import Derived.Test.YtpdclbfjngmppaaDoorBkS
import Derived.Test.YtpdclbfjngmppaaDoorSendRunLaw
namespace Go.Proofs.YtpdclbfjngmppaaDoor
open Go.RowKit
set_option linter.unusedVariables false
set_option linter.unusedSimpArgs false

section
variable {P : Program} {ops : Array Oper} {Q : Exit → Act → World → Prop} {md : Region.Mode}
/-- An operation that is not wanted, over a slot that holds nothing. -/
theorem wpAny_skip {i : Nat} {oi : Oper} {fuel : Nat} {listed : Array Bool} {a : Act} {w : World} (hi : ops[i]? = some oi)
    (hs : Region.noSelect ops = true) (hf : Region.free md ops listed i = true) (hr : (Region.ready md ops listed).contains i = true)
    (hQ : ∀ c a w, Q (.panic c) (a.put oi.dst undef) w → Q (.panic c) a w) (hw : Region.wanted oi (yielded ops a.tmps) = false) (hd : a.put oi.dst undef = a)
    (h : wpAny P md ops Q fuel (listed.setIfInBounds i true) a w) : wpAny P md ops Q (fuel + 1) listed a w :=
  wpAny_take hi hs hf hr hQ (Or.inr ⟨hw, rfl⟩) (by rw [hd]; exact h)
end
theorem QRep.chgS {w w' : World} {D S : Nat → Prop} {g base : Nat} {m : SS} (h : QRep w D g base m) (C : Chg S w w') (hs : ∀ t, D t → ¬ S t) : QRep w' D g base m := by
  obtain ⟨vd, vh, hb, hA⟩ := h
  exact ⟨vd, vh, (C.block g hb.lt (hs g hA.dg)).trans hb, ⟨ownsChg C hA.od (fun t ht => hs t (hA.dd t ht)), ownsChg C hA.oh (fun t ht => hs t (hA.dh t ht)), hA.dg, hA.dd, hA.dh, fun k hk => Nat.lt_of_lt_of_le (hA.lt k hk) C.size, hA.gb⟩⟩
theorem QRep.ltQ {w : World} {D : Nat → Prop} {g base : Nat} {m : SS} (h : QRep w D g base m) : ∀ t, D t → t < w.heap.size := by
  obtain ⟨vd, vh, hb, hA⟩ := h
  exact hA.lt
theorem QRep.dgQ {w : World} {D : Nat → Prop} {g base : Nat} {m : SS} (h : QRep w D g base m) : D g := by
  obtain ⟨vd, vh, hb, hA⟩ := h
  exact hA.dg
set_option maxRecDepth 20000 in
set_option maxHeartbeats 4000000 in
theorem pull_none (g base : Nat) (m : SS) (n : Nat) (D : Nat → Prop) (w : World) (I : SI m) (hR : QRep w D g base m) (hn : n ≤ 1500) (hcr : m.credit ≤ 9223372036854775807) (hno : spV m n = none) :
    Calls Tryd.prog 21 #[.pointer (some ⟨g, 0, none⟩), .int .i64 (n : Int)] w fun e w' => PullP g base m n D w e w' := by
  have A0 : Below w.heap.size w ((w.alloc (so7 0 (.slice none 0 0) false false false)).alloc (so7 0 (.slice none 0 0) false false false)) := ((Below.refl _ _).alloc (Nat.le_refl _) _).alloc (by simp) _
  have C := pieceM g base m n D _ I (hR.belowQ A0) hn hcr
  rw [hno] at C
  have bv : spull m n = (m, 0, [], false, false, m.live && decide (m.next < m.B.length)) := by
    unfold spV at hno
    unfold spull
    by_cases hl : m.live = false
    · rw [if_pos hl, hl]; rfl
    · rw [if_neg hl] at hno ⊢
      have : m.live = true := by simpa using hl
      rw [hno, this]; rfl
  obtain ⟨bb, ebb⟩ : ∃ bb, bb = (m.live && decide (m.next < m.B.length)) := ⟨_, rfl⟩
  rw [← ebb] at bv
  obtain ⟨vd, vh, hb, hA⟩ := id hR
  have hB0 := hb.belowQ A0
  have hz := hb.lt
  obtain ⟨⟨da, dc, ed⟩, _⟩ := hA.shape
  have hbig := I.big
  have hnx := I.nx
  have e2 := bk_new2 w (so7 0 (.slice none 0 0) false false false) (so7 0 (.slice none 0 0) false false false)
  have H0 : Hid _ := And.intro C (And.intro A0 (And.intro hB0 (And.intro bv (And.intro hR (And.intro e2 (And.intro ebb ed))))))
  clear C A0 hB0 bv hR hb hA hno I hcr e2 ebb ed
  unfold PullP
  rw [H0.out.2.2.2.1]
  go_enter Tryd.func21, Tryd.ntmps21
  go_wp2_with fail
  go_at_call 31
  refine H0.out.1.mono ?_
  rintro e w1 ⟨rfl, q, hw1⟩
  have B1 : Below w.heap.size w w1 := by rw [hw1]; exact below_drewN H0.out.2.1 q
  have q1 : qB w1 g m.st m.credit m.next m.fin m.finish vd vh := by rw [hw1]; exact H0.out.2.2.1.drewM q
  have r1 : w1.heap[w.heap.size]? = some (so7 0 (.slice none 0 0) false false false) := by rw [hw1]; exact H0.out.2.2.2.2.2.1.1
  have o1 : w1.heap[w.heap.size + 1]? = some (so7 0 (.slice none 0 0) false false false) := by rw [hw1]; exact H0.out.2.2.2.2.2.1.2
  have H1 : Hid _ := And.intro B1 (And.intro q1 (And.intro r1 o1))
  clear B1 q1 r1 o1 hw1
  unfold pV
  go_upto_region 4 with fail
  have d2 : w1.drew.cell? ⟨g, 2, none⟩ = some (.int .i64 (m.next : Int)) := (bk_cell H1.out.2.1 2).trans rfl
  have d5 : w1.drew.cell? ⟨g, 5, none⟩ = some (.slice da m.B.length dc) := (bk_cell H1.out.2.1 5).trans (by rw [H0.out.2.2.2.2.2.2.2]; rfl)
  have d6 : w1.drew.cell? ⟨w.heap.size + 1, 6, none⟩ = some (.bool false) := (bk_cell H1.out.2.2.2 6).trans rfl
  have f6 : w1.drew.frozen? ⟨w.heap.size + 1, 6, none⟩ = false := bk_free H1.out.2.2.2 6
  obtain ⟨L, eL⟩ : ∃ L, L = m.B.length := ⟨_, rfl⟩
  obtain ⟨N, eN⟩ : ∃ N, N = m.next := ⟨_, rfl⟩
  rw [← eL] at d5 hbig hnx
  rw [← eN] at d2 hnx
  have HL : Hid _ := And.intro eL eN
  clear eL eN
  have gne : ¬ (g = w.heap.size + 1) := by omega
  have gne' : ¬ (w.heap.size + 1 = g) := by omega
  go_cut [8] from 20 to 34 (fun v wx => v = .bool false ∧ wx.heap[w.heap.size + 1]? = some (so7 0 (.slice none 0 0) false false bb) ∧ wx.heap[w.heap.size]? = some (so7 0 (.slice none 0 0) false false false) ∧ Below w.heap.size w wx)
  case first =>
    have LV : Hid (∀ u : World, qB u g m.st m.credit m.next m.fin m.finish vd vh → Calls Tryd.prog 23 #[.pointer (some ⟨g, 0, none⟩)] u fun e w' => e = .returned (.bool m.live) ∧ w' = u) := fun u hu => liveM g m.st m.credit m.next m.fin m.finish vd vh u hu
    have Q1 : Hid (qB w1.drew g m.st m.credit m.next m.fin m.finish vd vh) := H1.out.2.1
    by_cases hl : m.live = true
    · rw [hl] at LV
      have eb : bb = decide (N < L) := by rw [H0.out.2.2.2.2.2.2.1, hl, HL.out.1, HL.out.2]; simp
      have EB : Hid _ := And.intro eb True.intro
      clear eb
      go_region_held3 (fun w' => w'.cell? ⟨g, 2, none⟩ = some (.int .i64 (N : Int)) ∧ w'.cell? ⟨g, 5, none⟩ = some (.slice da L dc)) (first | exact ⟨cell_offT d2 gne, cell_offT d5 gne⟩ | go_keep)
        (first
          | (go_at_call 23; refine (LV.out w1.drew Q1.out).mono ?_; rintro e wy ⟨rfl, hwy⟩; subst wy))
      all_goals
        go_wp2_with fail
        go_meet
        refine ⟨rfl, ?_, ?_, ?_⟩
        · rw [EB.out.1]; exact heap_drewN 1 (bk_set H1.out.2.2.2 6 _)
        · exact heap_drewN 1 ((bk_other (by omega) 6 _).trans H1.out.2.2.1)
        · exact below_drewN (H1.out.1.setCell (p := ⟨w.heap.size + 1, 6, none⟩) (by simp) _) 1
    · have hl' : m.live = false := by simpa using hl
      rw [hl'] at LV
      have eb : bb = false := by rw [H0.out.2.2.2.2.2.2.1, hl']; rfl
      have EB : Hid _ := And.intro eb True.intro
      clear eb hl d2 d5
      refine wp_region_any (by kernel_rfl) ?_
      refine wpAny_take (i := 0) (v := .pointer (some ⟨g, 0, none⟩)) rfl (by kernel_rfl) (by kernel_rfl) (by kernel_rfl) (fun _ _ _ h => h) (Or.inl ⟨by rfl, fun u => by go_simp⟩) ?_
      refine wpAny_ready (rs := [1]) (by kernel_rfl) (by simp) ?_
      refine AllReady.cons rfl (fun K hK => ?_) AllReady.nil
      go_simp
      go_at_call 23
      refine (LV.out w1.drew Q1.out).mono ?_
      rintro e wy ⟨rfl, hwy⟩
      subst wy
      refine hK _ _ ?_
      clear hK K
      refine wpAny_take (i := 2) (v := .bool false) rfl (by kernel_rfl) (by kernel_rfl) (by kernel_rfl) (fun _ _ _ h => h) (Or.inl ⟨by rfl, fun u => by go_simp⟩) ?_
      refine wpAny_skip (i := 3) rfl (by kernel_rfl) (by kernel_rfl) (by kernel_rfl) (fun _ _ _ h => h) (by rfl) (by rfl) ?_
      refine wpAny_skip (i := 4) rfl (by kernel_rfl) (by kernel_rfl) (by kernel_rfl) (fun _ _ _ h => h) (by rfl) (by rfl) ?_
      refine wpAny_skip (i := 5) rfl (by kernel_rfl) (by kernel_rfl) (by kernel_rfl) (fun _ _ _ h => h) (by rfl) (by rfl) ?_
      refine wpAny_skip (i := 6) rfl (by kernel_rfl) (by kernel_rfl) (by kernel_rfl) (fun _ _ _ h => h) (by rfl) (by rfl) ?_
      refine wpAny_skip (i := 7) rfl (by kernel_rfl) (by kernel_rfl) (by kernel_rfl) (fun _ _ _ h => h) (by rfl) (by rfl) ?_
      refine wpAny_skip (i := 8) rfl (by kernel_rfl) (by kernel_rfl) (by kernel_rfl) (fun _ _ _ h => h) (by rfl) (by rfl) ?_
      refine wpAny_skip (i := 9) rfl (by kernel_rfl) (by kernel_rfl) (by kernel_rfl) (fun _ _ _ h => h) (by rfl) (by rfl) ?_
      refine wpAny_skip (i := 10) rfl (by kernel_rfl) (by kernel_rfl) (by kernel_rfl) (fun _ _ _ h => h) (by rfl) (by rfl) ?_
      refine wpAny_skip (i := 11) rfl (by kernel_rfl) (by kernel_rfl) (by kernel_rfl) (fun _ _ _ h => h) (by rfl) (by rfl) ?_
      refine wpAny_skip (i := 12) rfl (by kernel_rfl) (by kernel_rfl) (by kernel_rfl) (fun _ _ _ h => h) (by rfl) (by rfl) ?_
      refine wpAny_take (i := 13) (v := .bool false) rfl (by kernel_rfl) (by kernel_rfl) (by kernel_rfl) (fun _ _ _ h => h) (Or.inl ⟨by rfl, fun u => by go_simp⟩) ?_
      refine wpAny_take (i := 14) (v := .pointer (some ⟨w.heap.size + 1, 6, none⟩)) rfl (by kernel_rfl) (by kernel_rfl) (by kernel_rfl) (fun _ _ _ h => h) (Or.inl ⟨by rfl, fun u => by go_simp⟩) ?_
      refine wpAny_ready (rs := [15]) (by kernel_rfl) (by simp) ?_
      refine AllReady.cons rfl (fun K hK => ?_) AllReady.nil
      go_simp
      refine hK _ _ ?_
      clear hK K
      refine wpAny_done (by kernel_rfl) ?_ _
      go_wp2_with fail
      go_meet
      refine ⟨rfl, ?_, ?_, ?_⟩
      · rw [EB.out.1]; exact heap_drewN 1 (bk_set H1.out.2.2.2 6 _)
      · exact heap_drewN 1 ((bk_other (by omega) 6 _).trans H1.out.2.2.1)
      · exact below_drewN (H1.out.1.setCell (p := ⟨w.heap.size + 1, 6, none⟩) (by simp) _) 1
  case rest =>
  obtain ⟨rfl, o2, r2, B2⟩ := hcut
  have H2 : Hid _ := And.intro o2 (And.intro r2 B2)
  clear d2 d5 d6 f6
  have z2 : w.heap.size + 1 < wc.heap.size := (Array.getElem?_eq_some_iff.1 o2).1
  have xc0 : wc.cell? ⟨w.heap.size + 1, 0, none⟩ = some (.int .i64 0) := (bk_cell o2 0).trans rfl
  have xf0 : wc.frozen? ⟨w.heap.size + 1, 0, none⟩ = false := bk_free o2 0
  have xc1 : wc.cell? ⟨w.heap.size + 1, 1, none⟩ = some (.int .i64 0) := (bk_cell o2 1).trans rfl
  have xf1 : wc.frozen? ⟨w.heap.size + 1, 1, none⟩ = false := bk_free o2 1
  have xc2 : wc.cell? ⟨w.heap.size + 1, 2, none⟩ = some (.int .i64 0) := (bk_cell o2 2).trans rfl
  have xf2 : wc.frozen? ⟨w.heap.size + 1, 2, none⟩ = false := bk_free o2 2
  have xc3 : wc.cell? ⟨w.heap.size + 1, 3, none⟩ = some (.slice none 0 0) := (bk_cell o2 3).trans rfl
  have xf3 : wc.frozen? ⟨w.heap.size + 1, 3, none⟩ = false := bk_free o2 3
  have xc4 : wc.cell? ⟨w.heap.size + 1, 4, none⟩ = some (.bool false) := (bk_cell o2 4).trans rfl
  have xf4 : wc.frozen? ⟨w.heap.size + 1, 4, none⟩ = false := bk_free o2 4
  have xc5 : wc.cell? ⟨w.heap.size + 1, 5, none⟩ = some (.bool false) := (bk_cell o2 5).trans rfl
  have xf5 : wc.frozen? ⟨w.heap.size + 1, 5, none⟩ = false := bk_free o2 5
  have xc6 : wc.cell? ⟨w.heap.size + 1, 6, none⟩ = some (.bool bb) := (bk_cell o2 6).trans rfl
  have xf6 : wc.frozen? ⟨w.heap.size + 1, 6, none⟩ = false := bk_free o2 6
  have yc0 : wc.cell? ⟨w.heap.size, 0, none⟩ = some (.int .i64 0) := (bk_cell r2 0).trans rfl
  have yf0 : wc.frozen? ⟨w.heap.size, 0, none⟩ = false := bk_free r2 0
  have yc1 : wc.cell? ⟨w.heap.size, 1, none⟩ = some (.int .i64 0) := (bk_cell r2 1).trans rfl
  have yf1 : wc.frozen? ⟨w.heap.size, 1, none⟩ = false := bk_free r2 1
  have yc2 : wc.cell? ⟨w.heap.size, 2, none⟩ = some (.int .i64 0) := (bk_cell r2 2).trans rfl
  have yf2 : wc.frozen? ⟨w.heap.size, 2, none⟩ = false := bk_free r2 2
  have yc3 : wc.cell? ⟨w.heap.size, 3, none⟩ = some (.slice none 0 0) := (bk_cell r2 3).trans rfl
  have yf3 : wc.frozen? ⟨w.heap.size, 3, none⟩ = false := bk_free r2 3
  have yc4 : wc.cell? ⟨w.heap.size, 4, none⟩ = some (.bool false) := (bk_cell r2 4).trans rfl
  have yf4 : wc.frozen? ⟨w.heap.size, 4, none⟩ = false := bk_free r2 4
  have yc5 : wc.cell? ⟨w.heap.size, 5, none⟩ = some (.bool false) := (bk_cell r2 5).trans rfl
  have yf5 : wc.frozen? ⟨w.heap.size, 5, none⟩ = false := bk_free r2 5
  have yc6 : wc.cell? ⟨w.heap.size, 6, none⟩ = some (.bool false) := (bk_cell r2 6).trans rfl
  have yf6 : wc.frozen? ⟨w.heap.size, 6, none⟩ = false := bk_free r2 6
  clear o2 r2 B2
  go_wp2_with fail
  exact bodyPost_ret (v := .agg (so7c 0 0 (.slice none 0 0) false false bb)) (results_cell_row (t := 30) rfl _ _ w.heap.size _ (fr := (0, 0)) _ rfl (put7_blk H2.out.2.1 0 0 (.slice none 0 0) false false bb) Tryd.underlying30 rfl infoSObs) rfl ⟨_, rfl, World.ownsRow_nil _ _ _ _, (H0.out.2.2.2.2.1.belowQ H2.out.2.2).chgS (put7_chg wc w.heap.size 0 0 (.slice none 0 0) false false bb) (fun t ht e => by have := H0.out.2.2.2.2.1.ltQ t ht; have e : t = w.heap.size := e; omega), (Chg.of_below H2.out.2.2).new (put7_chg wc w.heap.size 0 0 (.slice none 0 0) false false bb) (Nat.le_refl _)⟩
end Go.Proofs.YtpdclbfjngmppaaDoor

namespace Go.Proofs.YtpdclbfjngmppaaDoor
open Go.RowKit
set_option linter.unusedVariables false
set_option linter.unusedSimpArgs false

set_option maxHeartbeats 400000 in
theorem copyQ (v : Value) (xs : List Int) (w : World) (hr : Row w .u8 v xs) (hl : xs.length ≤ 1048576) :
    Calls Tryd.prog 32 #[v] w fun e w' => ∃ r, e = .returned r ∧ w'.ownsRow w.heap.size 5 1 r xs.length (xs.map (Value.int .u8)) ∧ Below w.heap.size w w' := by
  have ba : Below w.heap.size w (w.alloc (.cells #[] 5)) := (Below.refl _ _).alloc (Nat.le_refl _) _
  have HN : Hid _ := And.intro (hr.below ba) (And.intro ba hl)
  clear hr ba hl
  go_enter Tryd.func32, Tryd.ntmps32
  go_wp2_with (at_builtin; refine wpList_append_rowT rfl _ _ rfl w.heap.size (.slice (some ⟨w.heap.size, 0, none⟩) 0 0) 0 [] rfl (World.ownsRow_lit w #[] 0 (Nat.le_refl _) (by decide) rfl) v xs rfl HN.out.1 (by have := HN.out.2.2; omega) (by simp) ?_; intro v' w2 hown2 hgrow at2)
  have R : w2.ownsRow w.heap.size 5 1 v' xs.length (xs.map (Value.int .u8)) := by simpa using hown2
  have B : Below w.heap.size w w2 := HN.out.2.1.grown hgrow (by simp) (by intro k hk; simp [Value.ownBlock] at hk; omega)
  have HR : Hid _ := And.intro R B
  clear R B hown2 hgrow at2
  go_wp2
  go_ret
  exact ⟨_, rfl, HR.out.1, HR.out.2⟩
theorem QRep.setC {w : World} {D : Nat → Prop} {g base : Nat} {m : SS} (h : QRep w D g base m) (i : Nat) (u : Value) (m' : SS) (hB : m'.B = m.B) (hW : m'.W = m.W) (hc : ∀ vd vh, qB w g m.st m.credit m.next m.fin m.finish vd vh → qB (w.setCell ⟨g, i, none⟩ u) g m'.st m'.credit m'.next m'.fin m'.finish vd vh) : QRep (w.setCell ⟨g, i, none⟩ u) D g base m' := by
  obtain ⟨vd, vh, hb, hA⟩ := h
  refine ⟨vd, vh, hc vd vh hb, ?_⟩
  rw [hB, hW]
  exact hA.setG (own_gt hA.oh hb (by decide)) (own_gt hA.od hb (by decide)) i u
theorem QRep.setSt {w : World} {D : Nat → Prop} {g base : Nat} {m : SS} (h : QRep w D g base m) (x : Nat) : QRep (w.setCell ⟨g, 0, none⟩ (.int .i64 (x : Int))) D g base { m with st := x } := h.setC 0 _ _ rfl rfl (fun _ _ hb => bk_set hb 0 _)
theorem QRep.setNx {w : World} {D : Nat → Prop} {g base : Nat} {m : SS} (h : QRep w D g base m) (x : Nat) : QRep (w.setCell ⟨g, 2, none⟩ (.int .i64 (x : Int))) D g base { m with next := x } := h.setC 2 _ _ rfl rfl (fun _ _ hb => bk_set hb 2 _)
theorem QRep.setFn {w : World} {D : Nat → Prop} {g base : Nat} {m : SS} (h : QRep w D g base m) (x : Nat) : QRep (w.setCell ⟨g, 3, none⟩ (.int .i64 (x : Int))) D g base { m with fin := x } := h.setC 3 _ _ rfl rfl (fun _ _ hb => bk_set hb 3 _)
theorem QRep.cells {w : World} {D : Nat → Prop} {g base : Nat} {m : SS} (h : QRep w D g base m) : w.cell? ⟨g, 0, none⟩ = some (.int .i64 (m.st : Int)) ∧ w.cell? ⟨g, 2, none⟩ = some (.int .i64 (m.next : Int)) ∧ w.cell? ⟨g, 3, none⟩ = some (.int .i64 (m.fin : Int)) ∧ w.cell? ⟨g, 4, none⟩ = some (.bool m.finish) ∧ w.frozen? ⟨g, 0, none⟩ = false ∧ w.frozen? ⟨g, 2, none⟩ = false ∧ w.frozen? ⟨g, 3, none⟩ = false ∧ ∃ da dc, w.cell? ⟨g, 5, none⟩ = some (.slice da m.B.length dc) := by
  obtain ⟨vd, vh, hb, hA⟩ := h
  obtain ⟨⟨da, dc, rfl⟩, _⟩ := hA.shape
  exact ⟨(bk_cell hb 0).trans rfl, (bk_cell hb 2).trans rfl, (bk_cell hb 3).trans rfl, (bk_cell hb 4).trans rfl, bk_free hb 0, bk_free hb 2, bk_free hb 3, da, dc, (bk_cell hb 5).trans rfl⟩
/-- A piece of what was written. -/
theorem QRep.part {w : World} {D : Nat → Prop} {g base a b : Nat} {m : SS} (h : QRep w D g base m) (hab : a ≤ b) (hb : b ≤ m.B.length) :
    (w.cell? ⟨g, 5, none⟩ = some (.slice none 0 0) ∧ m.B.length = 0) ∨ ∃ d dc, w.cell? ⟨g, 5, none⟩ = some (.slice (some ⟨d, 0, none⟩) m.B.length dc) ∧ m.B.length ≤ dc ∧ (∀ o, a = b → Row w .u8 (.slice (some ⟨d, o, none⟩) (b - a) (dc - a)) ((m.B.drop a).take (b - a))) ∧ Row w .u8 (.slice (some ⟨d, a, none⟩) (b - a) (dc - a)) ((m.B.drop a).take (b - a)) := by
  obtain ⟨vd, vh, hbb, hA⟩ := h
  rcases hA.od.2 with ⟨rfl, h1⟩ | ⟨d, dc, cur, rfl, hg, hh, hnc, hr⟩
  · exact Or.inl ⟨(bk_cell hbb 5).trans rfl, h1⟩
  · refine Or.inr ⟨d, dc, (bk_cell hbb 5).trans rfl, hnc, ?_, ?_⟩
    · intro o e
      subst e
      rw [Nat.sub_self]
      exact Or.inl ⟨by simp, _, _, rfl⟩
    · have hr0 := row_of_owns hA.od
      by_cases e : a = b
      · subst e
        rw [Nat.sub_self]
        exact Or.inl ⟨by simp, _, _, rfl⟩
      · have hf := hr0.full (by omega)
        have hc : ∀ j, j < m.B.length → w.cell? ⟨d, 0 + j, none⟩ = some (.int .u8 (m.B.getD j 0)) := fun j hj => by
          rw [Nat.zero_add, hA.od.cellAt j (by omega)]
          simp [List.getD, hj]
        obtain ⟨b0, o0, c0, e0, l0, ⟨k1, k2⟩, _⟩ := hf
        simp only [Value.slice.injEq, Option.some.injEq, Addr.mk.injEq] at e0
        have := row_cut (w := w) (k := .u8) (xs := m.B) (b := d) (off := 0) (at' := a) (n := b - a) (cap' := dc - a) (cap := dc) (Array.getElem?_eq_some_iff.1 hh).1 hc (by omega) ⟨by omega, by omega⟩
        rw [Nat.zero_add] at this
        exact this
/-- Amid the pull: the part, the answer's room, the observation. -/
structure PQ (w wx : World) (g base : Nat) (D : Nat → Prop) (m : SS) (off : Int) (rv : Value) (f : Bool) (X : List Int) : Prop where
  rep : QRep wx D g base m
  b0 : wx.heap[w.heap.size]? = some (so7 0 (.slice none 0 0) false false false)
  b1 : wx.heap[w.heap.size + 1]? = some (so7 off rv true f false)
  ch : Chg D w wx
  ow : wx.ownsRow (w.heap.size + 2) 5 1 rv X.length (X.map (Value.int .u8))
theorem PQ.chg {w wx wy : World} {g base : Nat} {D : Nat → Prop} {m m' : SS} {off : Int} {rv : Value} {f : Bool} {X : List Int} (h : PQ w wx g base D m off rv f X) (hlt : ∀ t, D t → t < w.heap.size) (c : Chg D wx wy) (r : QRep wy D g base m') : PQ w wy g base D m' off rv f X :=
  ⟨r, (c.block _ (Array.getElem?_eq_some_iff.1 h.b0).1 (fun e => by have := hlt _ e; omega)).trans h.b0, (c.block _ (Array.getElem?_eq_some_iff.1 h.b1).1 (fun e => by have := hlt _ e; omega)).trans h.b1, h.ch.trans c, ownsChg c h.ow (fun t ht e => by have := (h.ow.lt t ht).1; have := hlt t e; omega)⟩
theorem chgG {D : Nat → Prop} {w : World} {g : Nat} (hg : D g) (i : Nat) (u : Value) : Chg D w (w.setCell ⟨g, i, none⟩ u) := (chg_of_eq w).setD g i u (Or.inl hg)
set_option maxRecDepth 20000 in
set_option maxHeartbeats 8000000 in
theorem pull_some (g base : Nat) (m : SS) (n a b : Nat) (D : Nat → Prop) (w : World) (I : SI m) (hR : QRep w D g base m) (hn : n ≤ 1500) (hcr : m.credit ≤ 9223372036854775807) (hp : spV m n = some (a, b)) :
    Calls Tryd.prog 21 #[.pointer (some ⟨g, 0, none⟩), .int .i64 (n : Int)] w fun e w' => PullP g base m n D w e w' := by
  have hl : m.live = true := by
    cases q : m.live
    · unfold spV at hp; rw [if_pos q] at hp; cases hp
    · rfl
  have hp' : spiece m n = some (a, b) := by unfold spV at hp; rw [if_neg (by rw [hl]; decide)] at hp; exact hp
  obtain ⟨hab, han, hbB, hban, -, hn2⟩ := spiece_ok I hp'
  have hst : m.st < 3 := by simpa [SS.live] using hl
  obtain ⟨f, ef⟩ : ∃ f, f = (m.finish && decide (b = m.B.length) && decide (m.fin ≠ 2)) := ⟨_, rfl⟩
  have e : spull m n = ({ m with W := setN m.W a b 1, next := max m.next b, fin := if f then 1 else m.fin, st := if f then 2 else if m.st = 0 then 1 else m.st }, a, (m.B.drop a).take (b - a), true, f, false) := by unfold spull; rw [if_neg (by rw [hl]; decide), hp', ef]
  obtain ⟨M2, eM2⟩ : ∃ M, M = { m with W := setN m.W a b 1, next := max m.next b, fin := if f then 1 else m.fin, st := if f then 2 else if m.st = 0 then 1 else m.st } := ⟨_, rfl⟩
  obtain ⟨X, eX⟩ : ∃ X, X = (m.B.drop a).take (b - a) := ⟨_, rfl⟩
  rw [← eM2, ← eX] at e
  unfold PullP
  rw [e]
  have A0 : Below w.heap.size w ((w.alloc (so7 0 (.slice none 0 0) false false false)).alloc (so7 0 (.slice none 0 0) false false false)) := ((Below.refl _ _).alloc (Nat.le_refl _) _).alloc (by simp) _
  have C := pieceM g base m n D _ I (hR.belowQ A0) hn hcr
  rw [hp] at C
  have e2 := bk_new2 w (so7 0 (.slice none 0 0) false false false) (so7 0 (.slice none 0 0) false false false)
  have hlt := hR.ltQ
  have hbig := I.big
  have hlen := I.len
  have hnx := I.nx
  have hgl : g < w.heap.size := hlt g hR.dgQ
  have H0 : Hid _ := And.intro C (And.intro A0 (And.intro e2 (And.intro hR (And.intro hlt (And.intro hn2 (And.intro ef (And.intro eM2 (And.intro eX hlen))))))))
  clear C A0 e2 hR hlt hn2 ef eM2 eX hlen hp hp' hl I hcr e
  unfold pV at H0
  go_enter Tryd.func21, Tryd.ntmps21
  go_wp2_with fail
  go_at_call 31
  refine H0.out.1.mono ?_
  rintro e w1 ⟨rfl, q, hw1⟩
  have B1 : Below w.heap.size w w1 := by rw [hw1]; exact below_drewN H0.out.2.1 q
  have r1 : w1.heap[w.heap.size]? = some (so7 0 (.slice none 0 0) false false false) := by rw [hw1]; exact H0.out.2.2.1.1
  have o1 : w1.heap[w.heap.size + 1]? = some (so7 0 (.slice none 0 0) false false false) := by rw [hw1]; exact H0.out.2.2.1.2
  have hs1 : w.heap.size + 1 < w1.heap.size := (Array.getElem?_eq_some_iff.1 o1).1
  have xc0 : w1.cell? ⟨w.heap.size + 1, 0, none⟩ = some (.int .i64 0) := (bk_cell o1 0).trans rfl
  have xf0 : w1.frozen? ⟨w.heap.size + 1, 0, none⟩ = false := bk_free o1 0
  have xc1 : w1.cell? ⟨w.heap.size + 1, 1, none⟩ = some (.int .i64 0) := (bk_cell o1 1).trans rfl
  have xf1 : w1.frozen? ⟨w.heap.size + 1, 1, none⟩ = false := bk_free o1 1
  have xc2 : w1.cell? ⟨w.heap.size + 1, 2, none⟩ = some (.int .i64 0) := (bk_cell o1 2).trans rfl
  have xf2 : w1.frozen? ⟨w.heap.size + 1, 2, none⟩ = false := bk_free o1 2
  have xc3 : w1.cell? ⟨w.heap.size + 1, 3, none⟩ = some (.slice none 0 0) := (bk_cell o1 3).trans rfl
  have xf3 : w1.frozen? ⟨w.heap.size + 1, 3, none⟩ = false := bk_free o1 3
  have xc4 : w1.cell? ⟨w.heap.size + 1, 4, none⟩ = some (.bool false) := (bk_cell o1 4).trans rfl
  have xf4 : w1.frozen? ⟨w.heap.size + 1, 4, none⟩ = false := bk_free o1 4
  have xc5 : w1.cell? ⟨w.heap.size + 1, 5, none⟩ = some (.bool false) := (bk_cell o1 5).trans rfl
  have xf5 : w1.frozen? ⟨w.heap.size + 1, 5, none⟩ = false := bk_free o1 5
  have xc6 : w1.cell? ⟨w.heap.size + 1, 6, none⟩ = some (.bool false) := (bk_cell o1 6).trans rfl
  have xf6 : w1.frozen? ⟨w.heap.size + 1, 6, none⟩ = false := bk_free o1 6
  have H1 : Hid _ := And.intro B1 (And.intro r1 o1)
  clear B1 r1 o1 hw1
  go_upto_region 8 with fail
  obtain ⟨X1, eX1⟩ : ∃ X1, X1 = (w1.setCell ⟨w.heap.size + 1, 4, none⟩ (.bool true)).setCell ⟨w.heap.size + 1, 2, none⟩ (.int .i64 (a : Int)) := ⟨_, rfl⟩
  have cX : Chg (fun t => t = w.heap.size + 1) w1 X1 := by
    have h0 : Chg (fun t => t = w.heap.size + 1) w1 w1 := chg_of_eq w1
    rw [eX1]
    exact (h0.set' (w.heap.size + 1) 4 _ rfl).set' (w.heap.size + 1) 2 _ rfl
  have kX0 : X1.heap[w.heap.size]? = some (so7 0 (.slice none 0 0) false false false) := (cX.block _ (by omega) (by omega)).trans H1.out.2.1
  have kX1 : X1.heap[w.heap.size + 1]? = some (so7 (a : Int) (.slice none 0 0) true false false) := by rw [eX1]; exact bk_set (bk_set H1.out.2.2 4 _) 2 _
  have rX : QRep X1 D g base m := (H0.out.2.2.2.1.belowQ H1.out.1).chgS cX (fun t ht e => by have := H0.out.2.2.2.2.1 t ht; have e : t = w.heap.size + 1 := e; omega)
  have chX : Chg D w X1 := (Chg.of_below H1.out.1).new cX (by omega)
  have hsX : w.heap.size + 1 < X1.heap.size := (Array.getElem?_eq_some_iff.1 kX1).1
  have hgX : g < X1.heap.size := by omega
  rw [← eX1]
  have HX : Hid _ := And.intro kX0 (And.intro kX1 (And.intro rX chX))
  obtain ⟨L, eL⟩ : ∃ L, L = m.B.length := ⟨_, rfl⟩
  have hlX : X.length = b - a := by rw [H0.out.2.2.2.2.2.2.2.2.1, List.length_take, List.length_drop]; omega
  have pt := rX.part hab hbB
  rw [← H0.out.2.2.2.2.2.2.2.2.1] at pt
  clear xc0 xf0 xc1 xf1 xc2 xf2 xc3 xf3 xc4 xf4 xc5 xf5 xc6 xf6
  clear cX kX0 kX1 rX chX eX1
  rw [← eL] at hbB hbig hnx pt
  have EL : Hid _ := And.intro eL True.intro
  clear eL
  go_cut [6] from 39 to 47 (fun v6 wx => v6 = .int .i64 (a : Int) ∧ ∃ rv, PQ w wx g base D m (a : Int) rv false X)
  case first =>
    have fz3 : X1.frozen? ⟨w.heap.size + 1, 3, none⟩ = false := bk_free HX.out.2.1 3
    have cz3 : X1.cell? ⟨w.heap.size + 1, 3, none⟩ = some (.slice none 0 0) := (bk_cell HX.out.2.1 3).trans rfl
    have after : ∀ (r : Value) (w2 : World), w2.ownsRow X1.heap.size 5 1 r X.length (X.map (Value.int .u8)) → Below X1.heap.size X1 w2 → PQ w (w2.setCell ⟨w.heap.size + 1, 3, none⟩ r) g base D m (a : Int) r false X := fun r w2 o2 b2 => by
      have c3 : Chg (fun t => t = w.heap.size + 1) w2 (w2.setCell ⟨w.heap.size + 1, 3, none⟩ r) := (chg_of_eq w2).set' (w.heap.size + 1) 3 _ rfl
      exact ⟨(HX.out.2.2.1.belowQ b2).chgS c3 (fun t ht e => by have := H0.out.2.2.2.2.1 t ht; have e : t = w.heap.size + 1 := e; omega), (bk_other (by omega) 3 _).trans ((b2.block _ (by omega)).trans HX.out.1), bk_set ((b2.block _ hsX).trans HX.out.2.1) 3 _, (HX.out.2.2.2.trans (Chg.of_below b2)).new c3 (by omega), owns_mono (ownsChg c3 o2 (fun t ht e => by have := (o2.lt t ht).1; have e : t = w.heap.size + 1 := e; omega)) (by omega)⟩
    have HA : Hid _ := And.intro after True.intro
    clear after
    rcases pt with ⟨d5, hL0⟩ | ⟨d, dc, d5, hLc, hrow0, hrow⟩
    · obtain rfl : b = 0 := by omega
      obtain rfl : a = 0 := by omega
      have CL : Hid _ := And.intro (copyQ (.slice none 0 0) X X1 (Or.inl ⟨List.eq_nil_of_length_eq_zero hlX, _, _, rfl⟩) (by rw [hlX]; omega)) hlX
      clear hlX hL0
      go_wp2_with (go_at_call 32; refine CL.out.1.mono ?_; rintro e w2 ⟨r, rfl, o2, b2⟩; obtain ⟨ra, rc, er⟩ := own_form o2; rw [CL.out.2] at er; subst er; have cz := (b2.cell (p := ⟨w.heap.size + 1, 3, none⟩) hsX).trans cz3; have fz : w2.frozen? ⟨w.heap.size + 1, 3, none⟩ = false := bk_free ((b2.block _ hsX).trans HX.out.2.1) 3; have hz2 := b2.size; have H2 : Hid _ := And.intro o2 b2; clear o2 b2)
      go_meet
      exact ⟨rfl, _, HA.out.1 _ _ H2.out.1 H2.out.2⟩
    · have hba : ((b : Int) - (a : Int)).toNat = b - a := by omega
      by_cases hda : dc = a
      · obtain rfl : b = a := by omega
        obtain rfl : dc = b := by omega
        obtain rfl : L = dc := by omega
        have CL : Hid _ := And.intro (fun o => copyQ (.slice (some ⟨d, o, none⟩) 0 0) X X1 (by have t := hrow0 o rfl; rw [Nat.sub_self] at t; exact t) (by rw [hlX]; omega)) (show X.length = 0 by rw [hlX, Nat.sub_self])
        clear hlX hLc hrow0 hrow
        go_wp2_with (go_at_call 32; refine (CL.out.1 _).mono ?_; rintro e w2 ⟨r, rfl, o2, b2⟩; obtain ⟨ra, rc, er⟩ := own_form o2; rw [CL.out.2] at er; subst er; have cz := (b2.cell (p := ⟨w.heap.size + 1, 3, none⟩) hsX).trans cz3; have fz : w2.frozen? ⟨w.heap.size + 1, 3, none⟩ = false := bk_free ((b2.block _ hsX).trans HX.out.2.1) 3; have hz2 := b2.size; have H2 : Hid _ := And.intro o2 b2; clear o2 b2)
        go_meet
        exact ⟨rfl, _, HA.out.1 _ _ H2.out.1 H2.out.2⟩
      · have CL : Hid _ := And.intro (copyQ (.slice (some ⟨d, a, none⟩) (b - a) (dc - a)) X X1 hrow (by rw [hlX]; omega)) hlX
        clear hlX hrow0 hrow
        go_wp2_with (go_at_call 32; refine CL.out.1.mono ?_; rintro e w2 ⟨r, rfl, o2, b2⟩; obtain ⟨ra, rc, er⟩ := own_form o2; rw [CL.out.2] at er; subst er; have cz := (b2.cell (p := ⟨w.heap.size + 1, 3, none⟩) hsX).trans cz3; have fz : w2.frozen? ⟨w.heap.size + 1, 3, none⟩ = false := bk_free ((b2.block _ hsX).trans HX.out.2.1) 3; have hz2 := b2.size; have H2 : Hid _ := And.intro o2 b2; clear o2 b2)
        go_meet
        exact ⟨rfl, _, HA.out.1 _ _ H2.out.1 H2.out.2⟩
  case rest =>
  obtain ⟨rfl, rv, hPQ⟩ := hcut
  have HP : Hid _ := And.intro hPQ True.intro
  clear hPQ pt hlX
  obtain ⟨NN, eNN⟩ : ∃ k, k = b - a := ⟨_, rfl⟩
  go_wp2_with fail
  go_loopg [9] NN (fun q i wr => ∃ k : Nat, k ≤ NN ∧ q = NN - k ∧ i = .int .i64 ((a + k : Nat) : Int) ∧ PQ w wr g base D { m with W := setN m.W a (a + k) 1 } (a : Int) rv false X)
  case atStart => exact ⟨0, by omega, by omega, rfl, by rw [Nat.add_zero, setN_empty]; exact HP.out.1⟩
  case round =>
    obtain ⟨k, hk, hq, rfl, hK⟩ := hrel
    by_cases hlt : k < NN
    · have hkb : ((a + k : Nat) : Int) < (b : Int) := by omega
      have hlen := H0.out.2.2.2.2.2.2.2.2.2
      have hkW : a + k < m.W.length := by have := EL.out.1; omega
      have hsl : (setN m.W a (a + k) 1).length = L := by rw [setN_length, hlen]; exact EL.out.1.symm
      have hne := H0.out.2.2.2.2.2.1 (a + k) (by omega) (by omega)
      have hnxt := setN_next m.W a (a + k) 1 (by omega) hkW
      rw [if_neg hne] at hnxt
      obtain ⟨vd, vh, hb, hA⟩ := hK.rep
      have oh := hA.oh
      simp only [] at oh
      rw [hsl] at oh
      obtain ⟨tb, tcap, e1, tcell, tfro⟩ := row_how oh hsl.symm (a + k) (by omega)
      have d6 : wr.cell? ⟨g, 6, none⟩ = some (.slice (some ⟨tb, 0, none⟩) L tcap) := by rw [← e1]; exact (bk_cell hb 6).trans rfl
      have ntg : tb ≠ g := own_gt oh hb (by decide) tb (by rw [e1]; rfl)
      have hrep : QRep (wr.setCell ⟨tb, a + k, none⟩ (.int .i64 1)) D g base { m with W := setN m.W a (a + (k + 1)) 1 } := by
        rw [← Nat.add_assoc, hnxt]
        subst e1
        exact ⟨vd, _, (bk_other (fun e => ntg e.symm) (a + k) _).trans hb, hA.put (k := a + k) (x := 1) hsl⟩
      have hnx2 : PQ w (wr.setCell ⟨tb, a + k, none⟩ (.int .i64 1)) g base D { m with W := setN m.W a (a + (k + 1)) 1 } (a : Int) rv false X := hK.chg H0.out.2.2.2.2.1 (chgG (hA.dh tb (by rw [e1]; rfl)) (a + k) _) hrep
      have tlt : tb < wr.heap.size := (oh.lt tb (by rw [e1]; rfl)).2
      have hgr : g < wr.heap.size := hb.lt
      obtain ⟨v0, ev0⟩ : ∃ v : Int, v = (((setN m.W a (a + k) 1).getD (a + k) 0 : Nat) : Int) := ⟨_, rfl⟩
      rw [← ev0] at tcell
      have H2 : Hid _ := And.intro hnx2 True.intro
      have hkI : (0 : Int) ≤ ((a + k : Nat) : Int) ∧ ((a + k : Nat) : Int) < (L : Int) := by omega
      obtain ⟨ix, eix⟩ : ∃ ix, ix = a + k := ⟨_, rfl⟩
      rw [← eix] at tcell tfro hkI hkb H2
      rw [← eix]
      have EI : Hid _ := And.intro eix True.intro
      clear hnx2 hrep hb hA oh hne hnxt hK hlen e1 ev0 hsl hkW eix
      go_wp2_with fail
      go_roundg (NN - (k + 1))
      case measure => omega
      case rel => exact ⟨k + 1, by omega, rfl, by (have := EI.out.1; subst this; go_num), H2.out.1⟩
    · obtain rfl : k = NN := by omega
      have hbk : a + k = b := by omega
      rw [hbk] at hK
      rw [hbk]
      have HK : Hid _ := And.intro hK True.intro
      obtain ⟨d0, d2, d3, d4, f0, f2, f3, da, dc, d5⟩ := hK.rep.cells
      have hgr : g < wr.heap.size := hK.rep.ltQ g hK.rep.dgQ
      have hs0 : w.heap.size + 1 < wr.heap.size := (Array.getElem?_eq_some_iff.1 hK.b1).1
      clear hK d0 d3 d4 f0 f3 d5 hbk eNN
      obtain ⟨mx, emx⟩ : ∃ mx : Nat, mx = max m.next b := ⟨_, rfl⟩
      go_upto_region 13 with fail
      go_cut [7] from 60 to 68 (fun v7 wx => v7 = .int .i64 (b : Int) ∧ wx = wr.setCell ⟨g, 2, none⟩ (.int .i64 (mx : Int)))
      case first =>
        have d2' : wr.cell? ⟨g, 2, none⟩ = some (.int .i64 (m.next : Int)) := d2
        have E : Hid _ := And.intro emx True.intro
        clear emx d2
        go_wp2_with fail
        go_meet
        exact ⟨rfl, by rw [E.out.1]; congr 2; omega⟩
      case rest =>
      obtain ⟨rfl, hwc⟩ := hcut
      obtain ⟨wA, ewA⟩ : ∃ x, x = wc := ⟨_, rfl⟩
      subst ewA
      have PQ2 : PQ w wA g base D { m with W := setN m.W a b 1, next := mx } (a : Int) rv false X := by rw [hwc]; exact HK.out.1.chg H0.out.2.2.2.2.1 (chgG HK.out.1.rep.dgQ 2 _) (HK.out.1.rep.setNx mx)
      clear hwc d2 f2 hgr hs0 HK HP HX
      have EM : Hid _ := And.intro emx True.intro
      clear emx
      obtain ⟨d0, -, -, -, f0, -, -, -⟩ := PQ2.rep.cells
      have d0' : wA.cell? ⟨g, 0, none⟩ = some (.int .i64 (m.st : Int)) := d0
      have hgc : g < wA.heap.size := PQ2.rep.ltQ g PQ2.rep.dgQ
      have HK : Hid _ := And.intro PQ2 True.intro
      clear PQ2 d0
      obtain ⟨zb, ezb⟩ : ∃ z : Bool, z = decide (m.st = 0) := ⟨_, rfl⟩
      have EZ : Hid _ := And.intro ezb True.intro
      clear ezb
      go_upto_region 14 with fail
      go_cut [73] from 69 to 72 (fun v73 wx => v73 = .bool zb ∧ wx = wA)
      case first =>
        by_cases h0 : m.st = 0
        · rw [h0] at d0'
          have E : Hid _ := And.intro h0 True.intro
          clear h0
          go_wp2_with fail
          go_meet
          exact ⟨by rw [EZ.out.1, decide_eq_true E.out.1], rfl⟩
        · have z0 : ((m.st : Int) == 0) = false := by simp; omega
          have E : Hid _ := And.intro h0 True.intro
          clear h0
          go_wp2_with fail
          go_meet
          exact ⟨by rw [EZ.out.1, decide_eq_false E.out.1], rfl⟩
      case rest =>
      obtain ⟨rfl, hwd⟩ := hcut
      subst wc
      obtain ⟨S1, eS1⟩ : ∃ S1 : Nat, S1 = if m.st = 0 then 1 else m.st := ⟨_, rfl⟩
      have PQs : PQ w (wA.setCell ⟨g, 0, none⟩ (.int .i64 1)) g base D { m with W := setN m.W a b 1, next := mx, st := 1 } (a : Int) rv false X := HK.out.1.chg H0.out.2.2.2.2.1 (chgG HK.out.1.rep.dgQ 0 _) (HK.out.1.rep.setSt 1)
      have HS : Hid _ := And.intro PQs eS1
      clear PQs eS1
      go_upto_if 73 with fail
      go_cut [7] from 74 to 76 (fun v7 wx => v7 = .int .i64 (b : Int) ∧ PQ w wx g base D { m with W := setN m.W a b 1, next := mx, st := S1 } (a : Int) rv false X)
      case first =>
        have e1 := HS.out.2
        have ez := EZ.out.1
        cases zb
        · have h0 : ¬ m.st = 0 := fun h => by rw [decide_eq_true h] at ez; cases ez
          rw [if_neg h0] at e1
          have E : Hid _ := And.intro e1 h0
          clear e1 h0 ez
          go_wp2_with fail
          go_meet
          exact ⟨rfl, by rw [E.out.1]; exact HK.out.1⟩
        · have h0 : m.st = 0 := by simpa using ez.symm
          rw [if_pos h0] at e1
          have E : Hid _ := And.intro e1 h0
          clear e1 h0 ez
          go_wp2_with fail
          go_meet
          exact ⟨rfl, by rw [E.out.1]; exact HS.out.1⟩
      case rest =>
      obtain ⟨rfl, PQ3⟩ := hcut
      clear d0' f0 hgc
      obtain ⟨wB, ewB⟩ : ∃ x, x = wc := ⟨_, rfl⟩
      subst ewB
      obtain ⟨d0, -, d3, d4, f0, -, f3, da, dc, d5⟩ := PQ3.rep.cells
      have d3' : wB.cell? ⟨g, 3, none⟩ = some (.int .i64 (m.fin : Int)) := d3
      have d4' : wB.cell? ⟨g, 4, none⟩ = some (.bool m.finish) := d4
      have d5' : wB.cell? ⟨g, 5, none⟩ = some (.slice da L dc) := by rw [EL.out.1]; exact d5
      have d0' : wB.cell? ⟨g, 0, none⟩ = some (.int .i64 (S1 : Int)) := d0
      have hgB : g < wB.heap.size := PQ3.rep.ltQ g PQ3.rep.dgQ
      have hs1B : w.heap.size + 1 < wB.heap.size := (Array.getElem?_eq_some_iff.1 PQ3.b1).1
      have HK3 : Hid _ := And.intro PQ3 True.intro
      clear d0 d3 d4 d5 PQ3
      go_upto_region 16 with fail
      go_cut [96] from 77 to 95 (fun v96 wx => v96 = .bool f ∧ wx = wB)
      case first =>
        have ef := H0.out.2.2.2.2.2.2.1
        rw [← EL.out.1] at ef
        have E : Hid _ := And.intro ef True.intro
        clear ef
        cases hf : m.finish
        · rw [hf] at d4' E
          go_wp2_with fail
          go_meet
          exact ⟨by rw [E.out.1]; rfl, rfl⟩
        · rw [hf] at d4' E
          by_cases e1 : b = L
          · have z1 : ((b : Int) == (L : Int)) = true := by simp [e1]
            have E1 : Hid _ := And.intro e1 True.intro
            clear e1
            by_cases e2 : m.fin = 2
            · rw [e2] at d3'
              go_wp2_with fail
              go_meet
              exact ⟨by rw [E.out.1, e2]; simp, rfl⟩
            · have z2 : ((m.fin : Int) != 2) = true := by simp; omega
              have E2 : Hid _ := And.intro e2 True.intro
              clear e2
              go_wp2_with fail
              go_meet
              exact ⟨by rw [E.out.1, decide_eq_true E1.out.1, decide_eq_true E2.out.1]; first | rfl | simp [z1, z2], rfl⟩
          · have z1 : ((b : Int) == (L : Int)) = false := by simp; omega
            have E1 : Hid _ := And.intro e1 True.intro
            clear e1
            go_wp2_with fail
            go_meet
            exact ⟨by rw [E.out.1, decide_eq_false E1.out.1]; simp, rfl⟩
      case rest =>
      obtain ⟨rfl, hwd⟩ := hcut
      subst wc
      clear d4' d5'
      go_upto_if 96 with fail
      go_cut [5] from 97 to 103 (fun v5 wx => v5 = .pointer (some ⟨w.heap.size + 1, 0, none⟩) ∧ PQ w wx g base D M2 (a : Int) rv f X)
      case first =>
        have eM := H0.out.2.2.2.2.2.2.2.1
        rw [← EM.out.1, ← HS.out.2] at eM
        cases f
        · have E : Hid _ := And.intro eM True.intro
          clear eM d0' d3' f0 f3
          go_wp2_with fail
          go_meet
          exact ⟨rfl, by rw [E.out.1]; exact HK3.out.1⟩
        · have c5 : wB.cell? ⟨w.heap.size + 1, 5, none⟩ = some (.bool false) := (bk_cell HK3.out.1.b1 5).trans rfl
          have f5 : wB.frozen? ⟨w.heap.size + 1, 5, none⟩ = false := bk_free HK3.out.1.b1 5
          have P5 : PQ w (wB.setCell ⟨w.heap.size + 1, 5, none⟩ (.bool true)) g base D { m with W := setN m.W a b 1, next := mx, st := S1 } (a : Int) rv true X := by
            have c : Chg (fun t => t = w.heap.size + 1) wB (wB.setCell ⟨w.heap.size + 1, 5, none⟩ (.bool true)) := (chg_of_eq wB).set' (w.heap.size + 1) 5 _ rfl
            exact ⟨HK3.out.1.rep.chgS c (fun t ht e => by have := H0.out.2.2.2.2.1 t ht; have e : t = w.heap.size + 1 := e; omega), (bk_other (by omega) 5 _).trans HK3.out.1.b0, bk_set HK3.out.1.b1 5 _, HK3.out.1.ch.new c (by omega), ownsChg c HK3.out.1.ow (fun t ht e => by have := (HK3.out.1.ow.lt t ht).1; have e : t = w.heap.size + 1 := e; omega)⟩
          have P6 := P5.chg H0.out.2.2.2.2.1 (chgG P5.rep.dgQ 3 (.int .i64 ((1 : Nat) : Int))) (P5.rep.setFn 1)
          have P7 := P6.chg H0.out.2.2.2.2.1 (chgG P6.rep.dgQ 0 (.int .i64 ((2 : Nat) : Int))) (P6.rep.setSt 2)
          have E : Hid _ := And.intro eM P7
          clear eM P5 P6 P7
          go_wp2_with fail
          go_meet
          exact ⟨rfl, by rw [E.out.1]; exact E.out.2⟩
      case rest =>
      obtain ⟨rfl, PQ4⟩ := hcut
      clear d0' d3' f0 f3 hgB hs1B
      obtain ⟨ra, rc, er⟩ := own_form PQ4.ow
      obtain ⟨rn, ern⟩ : ∃ rn, rn = X.length := ⟨_, rfl⟩
      rw [← ern] at er
      subst er
      have hs4 : w.heap.size + 1 < wc.heap.size := (Array.getElem?_eq_some_iff.1 PQ4.b1).1
      have xc0 : wc.cell? ⟨w.heap.size + 1, 0, none⟩ = some (.int .i64 0) := (bk_cell PQ4.b1 0).trans rfl
      have xf0 : wc.frozen? ⟨w.heap.size + 1, 0, none⟩ = false := bk_free PQ4.b1 0
      have xc1 : wc.cell? ⟨w.heap.size + 1, 1, none⟩ = some (.int .i64 0) := (bk_cell PQ4.b1 1).trans rfl
      have xf1 : wc.frozen? ⟨w.heap.size + 1, 1, none⟩ = false := bk_free PQ4.b1 1
      have xc2 : wc.cell? ⟨w.heap.size + 1, 2, none⟩ = some (.int .i64 (a : Int)) := (bk_cell PQ4.b1 2).trans rfl
      have xf2 : wc.frozen? ⟨w.heap.size + 1, 2, none⟩ = false := bk_free PQ4.b1 2
      have xc3 : wc.cell? ⟨w.heap.size + 1, 3, none⟩ = some (.slice ra rn rc) := (bk_cell PQ4.b1 3).trans rfl
      have xf3 : wc.frozen? ⟨w.heap.size + 1, 3, none⟩ = false := bk_free PQ4.b1 3
      have xc4 : wc.cell? ⟨w.heap.size + 1, 4, none⟩ = some (.bool true) := (bk_cell PQ4.b1 4).trans rfl
      have xf4 : wc.frozen? ⟨w.heap.size + 1, 4, none⟩ = false := bk_free PQ4.b1 4
      have xc5 : wc.cell? ⟨w.heap.size + 1, 5, none⟩ = some (.bool f) := (bk_cell PQ4.b1 5).trans rfl
      have xf5 : wc.frozen? ⟨w.heap.size + 1, 5, none⟩ = false := bk_free PQ4.b1 5
      have xc6 : wc.cell? ⟨w.heap.size + 1, 6, none⟩ = some (.bool false) := (bk_cell PQ4.b1 6).trans rfl
      have xf6 : wc.frozen? ⟨w.heap.size + 1, 6, none⟩ = false := bk_free PQ4.b1 6
      have yc0 : wc.cell? ⟨w.heap.size, 0, none⟩ = some (.int .i64 0) := (bk_cell PQ4.b0 0).trans rfl
      have yf0 : wc.frozen? ⟨w.heap.size, 0, none⟩ = false := bk_free PQ4.b0 0
      have yc1 : wc.cell? ⟨w.heap.size, 1, none⟩ = some (.int .i64 0) := (bk_cell PQ4.b0 1).trans rfl
      have yf1 : wc.frozen? ⟨w.heap.size, 1, none⟩ = false := bk_free PQ4.b0 1
      have yc2 : wc.cell? ⟨w.heap.size, 2, none⟩ = some (.int .i64 0) := (bk_cell PQ4.b0 2).trans rfl
      have yf2 : wc.frozen? ⟨w.heap.size, 2, none⟩ = false := bk_free PQ4.b0 2
      have yc3 : wc.cell? ⟨w.heap.size, 3, none⟩ = some (.slice none 0 0) := (bk_cell PQ4.b0 3).trans rfl
      have yf3 : wc.frozen? ⟨w.heap.size, 3, none⟩ = false := bk_free PQ4.b0 3
      have yc4 : wc.cell? ⟨w.heap.size, 4, none⟩ = some (.bool false) := (bk_cell PQ4.b0 4).trans rfl
      have yf4 : wc.frozen? ⟨w.heap.size, 4, none⟩ = false := bk_free PQ4.b0 4
      have yc5 : wc.cell? ⟨w.heap.size, 5, none⟩ = some (.bool false) := (bk_cell PQ4.b0 5).trans rfl
      have yf5 : wc.frozen? ⟨w.heap.size, 5, none⟩ = false := bk_free PQ4.b0 5
      have yc6 : wc.cell? ⟨w.heap.size, 6, none⟩ = some (.bool false) := (bk_cell PQ4.b0 6).trans rfl
      have yf6 : wc.frozen? ⟨w.heap.size, 6, none⟩ = false := bk_free PQ4.b0 6
      have H4 : Hid _ := And.intro PQ4 ern
      clear PQ4 ern
      go_wp2_with fail
      have cE := put7_chg wc w.heap.size 0 (a : Int) (.slice ra rn rc) true f false
      exact bodyPost_ret (v := .agg (so7c 0 (a : Int) (.slice ra rn rc) true f false)) (results_cell_row (t := 30) rfl _ _ w.heap.size _ (fr := (0, 0)) _ rfl (put7_blk H4.out.1.b0 0 (a : Int) (.slice ra rn rc) true f false) Tryd.underlying30 rfl infoSObs) rfl ⟨_, rfl, owns_mono (ownsChg cE H4.out.1.ow (fun t ht e => by have := (H4.out.1.ow.lt t ht).1; have e : t = w.heap.size := e; omega)) (by omega), H4.out.1.rep.chgS cE (fun t ht e => by have := H0.out.2.2.2.2.1 t ht; have e : t = w.heap.size := e; omega), H4.out.1.ch.new cE (Nat.le_refl _)⟩
end Go.Proofs.YtpdclbfjngmppaaDoor

namespace Go.Proofs.YtpdclbfjngmppaaDoor
open Go.RowKit
set_option linter.unusedVariables false
set_option linter.unusedSimpArgs false

/-- What a call leaves. -/
def LeftQ (g base : Nat) (D : Nat → Prop) (N : Nat) (w' : World) (M : SS) (r : Value) : Prop := ∃ D1, QRep w' D1 g base M ∧ (∀ t, D1 t → D t ∨ (N ≤ t ∧ t < w'.heap.size)) ∧ ∀ t, r.ownBlock = some t → ¬ D1 t
theorem LeftQ.of {g base N : Nat} {D : Nat → Prop} {w' : World} {M : SS} {r : Value} (h : QRep w' D g base M) (hr : ∀ t, r.ownBlock = some t → ¬ D t) : LeftQ g base D N w' M r := ⟨D, h, fun t ht => Or.inl ht, hr⟩
theorem LeftQ.of0 {g base N c : Nat} {D : Nat → Prop} {w' : World} {M : SS} (h : QRep w' D g base M) : LeftQ g base D N w' M (.slice none 0 c) := ⟨D, h, fun t ht => Or.inl ht, fun t ht => nomatch ht⟩
theorem LeftQ.c0 {g base N : Nat} {D : Nat → Prop} {w' : World} {M : SS} {r : Value} (h : LeftQ g base D N w' M r) : w'.cell? ⟨g, 0, none⟩ = some (.int .i64 (M.st : Int)) := by
  obtain ⟨D1, ⟨vd, vh, hb, hA⟩, _⟩ := h
  exact (bk_cell hb 0).trans rfl
theorem LeftQ.chg {g base N : Nat} {D S : Nat → Prop} {w' w2 : World} {M : SS} {r : Value} (h : LeftQ g base D N w' M r) (C : Chg S w' w2) (hs : ∀ t, S t → ¬ D t ∧ t < N) : LeftQ g base D N w2 M r := by
  obtain ⟨D1, h1, h2, h3⟩ := h
  exact ⟨D1, h1.chgS C (fun t ht q => (h2 t ht).elim (fun z => (hs t q).1 z) (fun z => by have := (hs t q).2; omega)), fun t ht => (h2 t ht).imp id (fun z => ⟨z.1, Nat.lt_of_lt_of_le z.2 C.size⟩), h3⟩
theorem LeftQ.mono {g base N N' : Nat} {D : Nat → Prop} {w' : World} {M : SS} {r : Value} (h : LeftQ g base D N w' M r) (hN : N' ≤ N) : LeftQ g base D N' w' M r := by
  obtain ⟨D1, h1, h2, h3⟩ := h
  exact ⟨D1, h1, fun t ht => (h2 t ht).imp id (fun z => ⟨by omega, z.2⟩), h3⟩
abbrev WQ (w : World) (k a b : Int) (u : Value) (fb : Bool) : World := ((w.alloc (opB k a b u fb)).alloc so0).alloc so0
theorem wq_below (w : World) (k a b : Int) (u : Value) (fb : Bool) : Below w.heap.size w (WQ w k a b u fb) := (((Below.refl _ _).alloc (Nat.le_refl _) _).alloc (by simp) _).alloc (by simp <;> omega) _
theorem wq_size (w : World) (k a b : Int) (u : Value) (fb : Bool) : (WQ w k a b u fb).heap.size = w.heap.size + 3 := by simp
theorem roomQ_new (w : World) (k a b : Int) (u : Value) (fb : Bool) : RoomS w (WQ w k a b u fb) (so7c 0 0 (.slice none 0 0) false false false) ∧ (WQ w k a b u fb).heap[w.heap.size]? = some (opB k a b u fb) := by
  obtain ⟨h0, h1, h2⟩ := bk_new3 w (opB k a b u fb) so0 so0
  exact ⟨⟨h1, h2⟩, h0⟩
/-- Behind the switch. -/
def MidQ (g base : Nat) (D : Nat → Prop) (w wx : World) (S : SS × SSendObs) : Prop := ∃ rv, RoomS w wx (so7c S.2.f0 S.2.f2 rv S.2.f4 S.2.f5 S.2.f6) ∧ LeftQ g base D (w.heap.size + 3) wx S.1 rv ∧ Chg D w wx ∧ wx.ownsRow (w.heap.size + 3) 5 1 rv S.2.f3.length (S.2.f3.map (Value.int .u8))
/-- A code put into the observation. -/
theorem midCode {g base : Nat} {D : Nat → Prop} {w w1 : World} {M : SS} (c st : Int) (hND : ∀ k, w.heap.size ≤ k → ¬ D k) (A1 : RoomS w w1 (so7c 0 0 (.slice none 0 0) false false false)) (l1 : LeftQ g base D (w.heap.size + 3) w1 M (.slice none 0 0)) (c1 : Chg D w w1) : MidQ g base D w (w1.setCell ⟨w.heap.size + 2, 0, none⟩ (.int .i64 c)) (M, ⟨c, st, 0, [], false, false, false⟩) := by
  have cS : Chg (fun t => t = w.heap.size + 2) w1 (w1.setCell ⟨w.heap.size + 2, 0, none⟩ (.int .i64 c)) := (chg_of_eq w1).set' (w.heap.size + 2) 0 _ rfl
  exact ⟨.slice none 0 0, ⟨(bk_other (by omega) 0 _).trans A1.b1, bk_set A1.b2 0 _⟩, l1.chg cS (fun t ht => ⟨hND t (by omega), by omega⟩), c1.new cS (by omega), World.ownsRow_nil _ _ _ _⟩
theorem mkMid {g base : Nat} {D : Nat → Prop} {w wx : World} {M : SS} {c off : Int} (st : Int) (A : RoomS w wx (so7c c off (.slice none 0 0) false false false)) (r : QRep wx D g base M) (ch : Chg D w wx) : MidQ g base D w wx (M, ⟨c, st, off, [], false, false, false⟩) :=
  ⟨.slice none 0 0, A, LeftQ.of0 r, ch, World.ownsRow_nil _ _ _ _⟩
theorem RoomS.set2 {w wx : World} {obs : Array Value} (h : RoomS w wx obs) (i : Nat) (u : Value) : RoomS w (wx.setCell ⟨w.heap.size + 2, i, none⟩ u) (obs.setIfInBounds i u) := ⟨(bk_other (by omega) i u).trans h.b1, bk_set h.b2 i u⟩
theorem RoomS.drew1 {w wx : World} {obs : Array Value} (h : RoomS w wx obs) : RoomS w wx.drew obs := ⟨h.b1, h.b2⟩
theorem RoomS.setG {w wx : World} {obs : Array Value} {g : Nat} (h : RoomS w wx obs) (hg : g < w.heap.size) (i : Nat) (u : Value) : RoomS w (wx.setCell ⟨g, i, none⟩ u) obs := ⟨(bk_other (by omega) i u).trans h.b1, (bk_other (by omega) i u).trans h.b2⟩
theorem QRep.set2 {g base : Nat} {D : Nat → Prop} {w wx : World} {M : SS} (h : QRep wx D g base M) (hND : ∀ k, w.heap.size ≤ k → ¬ D k) (i : Nat) (u : Value) : QRep (wx.setCell ⟨w.heap.size + 2, i, none⟩ u) D g base M :=
  h.chgS (S := fun t => t = w.heap.size + 2) ((chg_of_eq wx).set' (w.heap.size + 2) i _ rfl) (fun t ht e => hND t (by have e : t = w.heap.size + 2 := e; omega) ht)
theorem Chg.set2 {D : Nat → Prop} {w wx : World} (h : Chg D w wx) (i : Nat) (u : Value) : Chg D w (wx.setCell ⟨w.heap.size + 2, i, none⟩ u) := Chg.new (k := w.heap.size + 2) h ((chg_of_eq wx).set' (w.heap.size + 2) i u rfl) (by omega)
theorem QRep.setCr {w : World} {D : Nat → Prop} {g base : Nat} {m : SS} (h : QRep w D g base m) (x : Int) : QRep (w.setCell ⟨g, 1, none⟩ (.int .i64 x)) D g base { m with credit := x } := h.setC 1 _ _ rfl rfl (fun _ _ hb => bk_set hb 1 _)
theorem QRep.drew1 {w : World} {D : Nat → Prop} {g base : Nat} {m : SS} (h : QRep w D g base m) : QRep w.drew D g base m := h.belowQ (below_refl' _ _ 1)
theorem QRep.more {w : World} {D : Nat → Prop} {g base : Nat} {m : SS} (h : QRep w D g base m) : w.cell? ⟨g, 1, none⟩ = some (.int .i64 m.credit) ∧ w.frozen? ⟨g, 1, none⟩ = false := by
  obtain ⟨vd, vh, hb, hA⟩ := h
  exact ⟨(bk_cell hb 1).trans rfl, bk_free hb 1⟩
theorem pullM (g base : Nat) (m : SS) (n : Nat) (D : Nat → Prop) (w : World) (I : SI m) (hR : QRep w D g base m) (hn : n ≤ 1500) (hcr : m.credit ≤ 9223372036854775807) :
    Calls Tryd.prog 21 #[.pointer (some ⟨g, 0, none⟩), .int .i64 (n : Int)] w fun e w' => PullP g base m n D w e w' := by
  cases hp : spV m n with
  | none => exact pull_none g base m n D w I hR hn hcr hp
  | some z => exact pull_some g base m n z.1 z.2 D w I hR hn hcr hp
theorem mid0 {g base : Nat} {D : Nat → Prop} {w w1 : World} {M : SS} (st : Int) (A1 : RoomS w w1 (so7c 0 0 (.slice none 0 0) false false false)) (l1 : LeftQ g base D (w.heap.size + 3) w1 M (.slice none 0 0)) (c1 : Chg D w w1) : MidQ g base D w w1 (M, ⟨0, st, 0, [], false, false, false⟩) :=
  ⟨.slice none 0 0, A1, l1, c1, World.ownsRow_nil _ _ _ _⟩
theorem sstep_st (m : SS) (o : SSendOp) : (sstep m o).2.f1 = ((sstep m o).1.st : Int) := by
  unfold sstep
  by_cases c1 : o.f0 = 1
  · rw [if_pos c1]
  rw [if_neg c1]
  by_cases c2 : o.f0 = 2
  · rw [if_pos c2]
  rw [if_neg c2]
  by_cases c3 : o.f0 = 3
  · rw [if_pos c3]
  rw [if_neg c3]
  by_cases c4 : o.f0 = 4
  · rw [if_pos c4]
    split <;> rfl
  rw [if_neg c4]
  by_cases c5 : o.f0 = 5
  · rw [if_pos c5]
  rw [if_neg c5]
  by_cases c6 : o.f0 = 6
  · rw [if_pos c6]
  rw [if_neg c6]
  by_cases c7 : o.f0 = 7
  · rw [if_pos c7]
    split <;> rfl
  rw [if_neg c7]
  by_cases c8 : o.f0 = 8
  · rw [if_pos c8]
    split <;> rfl
  rw [if_neg c8]
set_option maxRecDepth 20000 in
set_option maxHeartbeats 8000000 in
theorem doM (g base : Nat) (m : SS) (o : SSendOp) (ua : Option Addr) (un uc : Nat) (D : Nat → Prop) (w : World) (I : SI m) (hcr : m.credit ≤ 9223372036854775807) (hR : QRep w D g base m) (hrow : Row w .u8 (.slice ua un uc) o.f3) (hl : o.f3.length ≤ 1048576) (h1' : o.f1 ≤ 9223372036854775807) (h2' : o.f2 ≤ 9223372036854775807) (hbase : base ≤ w.heap.size) :
    Calls Tryd.prog 14 #[.pointer (some ⟨g, 0, none⟩), .agg #[.int .i64 o.f0, .int .i64 o.f1, .int .i64 o.f2, .slice ua un uc, .bool o.f4]] w fun e w' => ∃ r, e = .returned (.agg (so7s (sstep m o).2.f0 (sstep m o).2.f1 (sstep m o).2.f2 r (sstep m o).2.f4 (sstep m o).2.f5 (sstep m o).2.f6)) ∧ w'.ownsRow (w.heap.size + 3) 5 1 r (sstep m o).2.f3.length ((sstep m o).2.f3.map (Value.int .u8)) ∧ LeftQ g base D (w.heap.size + 3) w' (sstep m o).1 r ∧ Chg D w w' := by
  obtain ⟨k, a, b, X, fb⟩ := o
  dsimp only at *
  obtain ⟨S, eS⟩ : ∃ S, S = sstep m ⟨k, a, b, X, fb⟩ := ⟨_, rfl⟩
  rw [← eS]
  have eSt : S.2.f1 = (S.1.st : Int) := by rw [eS]; exact sstep_st m _
  have hlt := hR.ltQ
  have hgl : g < w.heap.size := hlt g hR.dgQ
  have hND : ∀ k, w.heap.size ≤ k → ¬ D k := fun k hk h => by have := hlt k h; omega
  have HH : Hid _ := And.intro hR (And.intro hrow (And.intro I (And.intro hND (And.intro eS eSt))))
  clear hR hrow I hND hlt eS eSt
  go_enter Tryd.func14, Tryd.ntmps14
  go_upto_block 0 with fail
  go_cut [5] from 9 to 98 (fun v5 wx => v5 = .pointer (some ⟨w.heap.size + 1 + 1, 0, none⟩) ∧ MidQ g base D w wx S)
  case first =>
    have A0 := roomQ_new w k a b (.slice ua un uc) fb
    have B3 := wq_below w k a b (.slice ua un uc) fb
    have s3 := wq_size w k a b (.slice ua un uc) fb
    have R3 := HH.out.1.belowQ B3
    have row3 := HH.out.2.1.below B3
    have hsz : w.heap.size + 2 < (WQ w k a b (.slice ua un uc) fb).heap.size := by rw [s3]; omega
    have after : ∀ w1, Chg D (WQ w k a b (.slice ua un uc) fb) w1 → RoomS w w1 (so7c 0 0 (.slice none 0 0) false false false) ∧ Chg D w w1 := fun w1 c => ⟨A0.1.chg c HH.out.2.2.2.1, (Chg.of_below B3).trans c⟩
    have eS := HH.out.2.2.2.2.1
    unfold sstep at eS
    dsimp only at eS
    by_cases k1 : k = 1
    · subst k1
      rw [if_pos rfl] at eS
      have C := writeM g base m (.slice ua un uc) X D (WQ w 1 a b (.slice ua un uc) fb) HH.out.2.2.1 R3 row3 hl (by omega)
      have H0 : Hid _ := And.intro C (And.intro after eS)
      clear C A0 B3 R3 row3 after eS
      go_wp2_with (go_at_call 19; refine H0.out.1.mono ?_; rintro e w1 ⟨rfl, r1, c1⟩; obtain ⟨A1, c1'⟩ := H0.out.2.1 w1 c1; have zc0 : w1.cell? ⟨w.heap.size + 2, 0, none⟩ = some (.int .i64 0) := (bk_cell A1.b2 0).trans rfl; have zf0 : w1.frozen? ⟨w.heap.size + 2, 0, none⟩ = false := bk_free A1.b2 0; have hs1 : w.heap.size + 2 < w1.heap.size := A1.lt; have H1 : Hid _ := And.intro r1 (And.intro A1 c1'); clear r1 A1 c1 c1')
      go_meet
      refine ⟨rfl, ?_⟩
      rw [H0.out.2.2]
      exact midCode _ _ HH.out.2.2.2.1 H1.out.2.1 (show LeftQ g base D (w.heap.size + 3) w1 _ (.slice none 0 0) from ⟨_, H1.out.1, fun t ht => ht.imp id (fun z => ⟨by omega, z.2⟩), fun t ht => nomatch ht⟩) H1.out.2.2
    rw [if_neg k1] at eS
    by_cases k2 : k = 2
    · subst k2
      rw [if_pos rfl] at eS
      have C := endM g base m D (WQ w 2 a b (.slice ua un uc) fb) HH.out.2.2.1 R3
      have H0 : Hid _ := And.intro C (And.intro after eS)
      clear C A0 B3 R3 row3 after eS
      go_wp2_with (go_at_call 20; refine H0.out.1.mono ?_; rintro e w1 ⟨rfl, r1, c1⟩; obtain ⟨A1, c1'⟩ := H0.out.2.1 w1 c1; have zc0 : w1.cell? ⟨w.heap.size + 2, 0, none⟩ = some (.int .i64 0) := (bk_cell A1.b2 0).trans rfl; have zf0 : w1.frozen? ⟨w.heap.size + 2, 0, none⟩ = false := bk_free A1.b2 0; have hs1 : w.heap.size + 2 < w1.heap.size := A1.lt; have H1 : Hid _ := And.intro r1 (And.intro A1 c1'); clear r1 A1 c1 c1')
      go_meet
      refine ⟨rfl, ?_⟩
      rw [H0.out.2.2]
      exact midCode _ _ HH.out.2.2.2.1 H1.out.2.1 (LeftQ.of0 H1.out.1) H1.out.2.2
    rw [if_neg k2] at eS
    by_cases k3 : k = 3
    · subst k3
      rw [if_pos rfl] at eS
      obtain ⟨W0, eW0⟩ : ∃ x, x = ((w.alloc (.cells #[.int .i64 3, .int .i64 a, .int .i64 b, .slice ua un uc, .bool fb] 32)).alloc (.cells #[.int .i64 0, .int .i64 0, .int .i64 0, .slice none 0 0, .bool false, .bool false, .bool false] 30)).alloc (.cells #[.int .i64 0, .int .i64 0, .int .i64 0, .slice none 0 0, .bool false, .bool false, .bool false] 30) := ⟨_, rfl⟩
      have KA : RoomS w W0 (so7c 0 0 (.slice none 0 0) false false false) := by rw [eW0]; exact A0.1
      have KB : W0.heap[w.heap.size]? = some (opB 3 a b (.slice ua un uc) fb) := by rw [eW0]; exact A0.2
      have KR : QRep W0 D g base m := by rw [eW0]; exact R3
      have KC : Chg D w W0 := by rw [eW0]; exact Chg.of_below B3
      have hs0 : w.heap.size + 2 < W0.heap.size := KA.lt
      rw [← eW0]
      clear eW0 A0 B3 R3 row3 after s3 hsz
      have bx0 : W0.cell? ⟨w.heap.size, 0, none⟩ = some (.int .i64 3) := (bk_cell KB 0).trans rfl
      have bx1 : W0.cell? ⟨w.heap.size, 1, none⟩ = some (.int .i64 a) := (bk_cell KB 1).trans rfl
      have bx2 : W0.cell? ⟨w.heap.size, 2, none⟩ = some (.int .i64 b) := (bk_cell KB 2).trans rfl
      have bx3 : W0.cell? ⟨w.heap.size, 3, none⟩ = some (.slice ua un uc) := (bk_cell KB 3).trans rfl
      have bx4 : W0.cell? ⟨w.heap.size, 4, none⟩ = some (.bool fb) := (bk_cell KB 4).trans rfl
      have zc0 : W0.cell? ⟨w.heap.size + 2, 0, none⟩ = some (.int .i64 0) := (bk_cell KA.b2 0).trans rfl
      have zf0 : W0.frozen? ⟨w.heap.size + 2, 0, none⟩ = false := bk_free KA.b2 0
      have zc1 : W0.cell? ⟨w.heap.size + 2, 1, none⟩ = some (.int .i64 0) := (bk_cell KA.b2 1).trans rfl
      have zf1 : W0.frozen? ⟨w.heap.size + 2, 1, none⟩ = false := bk_free KA.b2 1
      have zc2 : W0.cell? ⟨w.heap.size + 2, 2, none⟩ = some (.int .i64 0) := (bk_cell KA.b2 2).trans rfl
      have zf2 : W0.frozen? ⟨w.heap.size + 2, 2, none⟩ = false := bk_free KA.b2 2
      have zc3 : W0.cell? ⟨w.heap.size + 2, 3, none⟩ = some (.slice none 0 0) := (bk_cell KA.b2 3).trans rfl
      have zf3 : W0.frozen? ⟨w.heap.size + 2, 3, none⟩ = false := bk_free KA.b2 3
      have zc4 : W0.cell? ⟨w.heap.size + 2, 4, none⟩ = some (.bool false) := (bk_cell KA.b2 4).trans rfl
      have zf4 : W0.frozen? ⟨w.heap.size + 2, 4, none⟩ = false := bk_free KA.b2 4
      have zc5 : W0.cell? ⟨w.heap.size + 2, 5, none⟩ = some (.bool false) := (bk_cell KA.b2 5).trans rfl
      have zf5 : W0.frozen? ⟨w.heap.size + 2, 5, none⟩ = false := bk_free KA.b2 5
      have zc6 : W0.cell? ⟨w.heap.size + 2, 6, none⟩ = some (.bool false) := (bk_cell KA.b2 6).trans rfl
      have zf6 : W0.frozen? ⟨w.heap.size + 2, 6, none⟩ = false := bk_free KA.b2 6
      obtain ⟨d0, d2, -, -, f0, f2, -, -⟩ := KR.cells
      obtain ⟨d1, f1⟩ := KR.more
      have KK : Hid _ := And.intro KA (And.intro KR (And.intro KC eS))
      clear KA KB KR KC eS
      have hcr0 := HH.out.2.2.1.cr
      by_cases hb : b < 0
      · have e := KK.out.2.2.2
        unfold scredit at e
        rw [if_pos hb] at e
        have emx : max m.credit b = m.credit := by omega
        have E : Hid _ := And.intro e emx
        clear e emx
        go_upto_region 11 with fail
        obtain ⟨W1, eW1⟩ : ∃ x, x = W0.setCell ⟨w.heap.size + 2, 0, none⟩ (.int .i64 1) := ⟨_, rfl⟩
        have A1 : RoomS w W1 (so7c 1 0 (.slice none 0 0) false false false) := by rw [eW1]; exact KK.out.1.set2 0 _
        have R1 : QRep W1 D g base m := by rw [eW1]; exact KK.out.2.1.set2 HH.out.2.2.2.1 0 _
        have C1 : Chg D w W1 := by rw [eW1]; exact KK.out.2.2.1.set2 0 _
        have x2 : W1.cell? ⟨w.heap.size, 2, none⟩ = some (.int .i64 b) := by rw [eW1]; exact (World.cell?_of_block (w := W0) (a := ⟨w.heap.size, 2, none⟩) (bk_other (k := w.heap.size) (g := w.heap.size + 2) (by omega) 0 _)).trans bx2
        rw [← eW1]
        clear eW1 bx0 bx1 bx2 bx3 bx4 d0 d1 d2 f0 f1 f2
        have y1 := R1.more.1
        have y2 := R1.more.2
        have y1d : W1.drew.cell? ⟨g, 1, none⟩ = some (.int .i64 m.credit) := y1
        have y2d : W1.drew.frozen? ⟨g, 1, none⟩ = false := y2
        have x2d : W1.drew.cell? ⟨w.heap.size, 2, none⟩ = some (.int .i64 b) := x2
        have hs1 : w.heap.size + 2 < W1.heap.size := A1.lt
        have KL : Hid _ := And.intro A1 (And.intro R1 C1)
        clear A1 R1 C1
        go_region
        all_goals
          go_wp2_with fail
          go_meet
          refine ⟨rfl, ?_⟩
          rw [E.out.1]
          refine mkMid _ (show RoomS w _ (so7c 1 0 (.slice none 0 0) false false false) from (KL.out.1.setG hgl 1 _).drew1) ?_ ((KL.out.2.2.trans (chgG KL.out.2.1.dgQ 1 _)).drewD 1)
          refine QRep.drew1 ?_
          have t := KL.out.2.1.setCr (max m.credit b)
          rw [E.out.2] at t ⊢
          exact t
      · have e := KK.out.2.2.2
        unfold scredit at e
        rw [if_neg hb] at e
        have E : Hid _ := And.intro e True.intro
        clear e
        have y1d : W0.drew.cell? ⟨g, 1, none⟩ = some (.int .i64 m.credit) := d1
        have y2d : W0.drew.frozen? ⟨g, 1, none⟩ = false := f1
        have x2d : W0.drew.cell? ⟨w.heap.size, 2, none⟩ = some (.int .i64 b) := bx2
        go_upto_region 11 with fail
        go_region
        all_goals
          go_wp2_with fail
          go_meet
          refine ⟨rfl, ?_⟩
          rw [E.out.1]
          exact mkMid _ (show RoomS w _ (so7c 0 0 (.slice none 0 0) false false false) from (KK.out.1.setG hgl 1 _).drew1) (QRep.drew1 (KK.out.2.1.setCr (max m.credit b))) ((KK.out.2.2.1.trans (chgG KK.out.2.1.dgQ 1 _)).drewD 1)
    rw [if_neg k3] at eS
    by_cases k4 : k = 4
    · subst k4
      rw [if_pos rfl] at eS
      obtain ⟨W0, eW0⟩ : ∃ x, x = ((w.alloc (.cells #[.int .i64 4, .int .i64 a, .int .i64 b, .slice ua un uc, .bool fb] 32)).alloc (.cells #[.int .i64 0, .int .i64 0, .int .i64 0, .slice none 0 0, .bool false, .bool false, .bool false] 30)).alloc (.cells #[.int .i64 0, .int .i64 0, .int .i64 0, .slice none 0 0, .bool false, .bool false, .bool false] 30) := ⟨_, rfl⟩
      have KA : RoomS w W0 (so7c 0 0 (.slice none 0 0) false false false) := by rw [eW0]; exact A0.1
      have KB : W0.heap[w.heap.size]? = some (opB 4 a b (.slice ua un uc) fb) := by rw [eW0]; exact A0.2
      have KR : QRep W0 D g base m := by rw [eW0]; exact R3
      have KC : Chg D w W0 := by rw [eW0]; exact Chg.of_below B3
      have hs0 : w.heap.size + 2 < W0.heap.size := KA.lt
      rw [← eW0]
      clear eW0 A0 B3 R3 row3 after s3 hsz
      have bx0 : W0.cell? ⟨w.heap.size, 0, none⟩ = some (.int .i64 4) := (bk_cell KB 0).trans rfl
      have bx1 : W0.cell? ⟨w.heap.size, 1, none⟩ = some (.int .i64 a) := (bk_cell KB 1).trans rfl
      have bx2 : W0.cell? ⟨w.heap.size, 2, none⟩ = some (.int .i64 b) := (bk_cell KB 2).trans rfl
      have bx3 : W0.cell? ⟨w.heap.size, 3, none⟩ = some (.slice ua un uc) := (bk_cell KB 3).trans rfl
      have bx4 : W0.cell? ⟨w.heap.size, 4, none⟩ = some (.bool fb) := (bk_cell KB 4).trans rfl
      have zc0 : W0.cell? ⟨w.heap.size + 2, 0, none⟩ = some (.int .i64 0) := (bk_cell KA.b2 0).trans rfl
      have zf0 : W0.frozen? ⟨w.heap.size + 2, 0, none⟩ = false := bk_free KA.b2 0
      have zc1 : W0.cell? ⟨w.heap.size + 2, 1, none⟩ = some (.int .i64 0) := (bk_cell KA.b2 1).trans rfl
      have zf1 : W0.frozen? ⟨w.heap.size + 2, 1, none⟩ = false := bk_free KA.b2 1
      have zc2 : W0.cell? ⟨w.heap.size + 2, 2, none⟩ = some (.int .i64 0) := (bk_cell KA.b2 2).trans rfl
      have zf2 : W0.frozen? ⟨w.heap.size + 2, 2, none⟩ = false := bk_free KA.b2 2
      have zc3 : W0.cell? ⟨w.heap.size + 2, 3, none⟩ = some (.slice none 0 0) := (bk_cell KA.b2 3).trans rfl
      have zf3 : W0.frozen? ⟨w.heap.size + 2, 3, none⟩ = false := bk_free KA.b2 3
      have zc4 : W0.cell? ⟨w.heap.size + 2, 4, none⟩ = some (.bool false) := (bk_cell KA.b2 4).trans rfl
      have zf4 : W0.frozen? ⟨w.heap.size + 2, 4, none⟩ = false := bk_free KA.b2 4
      have zc5 : W0.cell? ⟨w.heap.size + 2, 5, none⟩ = some (.bool false) := (bk_cell KA.b2 5).trans rfl
      have zf5 : W0.frozen? ⟨w.heap.size + 2, 5, none⟩ = false := bk_free KA.b2 5
      have zc6 : W0.cell? ⟨w.heap.size + 2, 6, none⟩ = some (.bool false) := (bk_cell KA.b2 6).trans rfl
      have zf6 : W0.frozen? ⟨w.heap.size + 2, 6, none⟩ = false := bk_free KA.b2 6
      obtain ⟨d0, d2, -, -, f0, f2, -, -⟩ := KR.cells
      obtain ⟨d1, f1⟩ := KR.more
      have KK : Hid _ := And.intro KA (And.intro KR (And.intro KC eS))
      clear KA KB KR KC eS
      by_cases hb : b < 1 ∨ 1500 < b
      · have e := KK.out.2.2.2
        rw [if_pos hb] at e
        have E : Hid _ := And.intro e True.intro
        clear e
        rcases hb with hb | hb
        · go_wp2_with fail
          go_meet
          refine ⟨rfl, ?_⟩
          rw [E.out.1]
          exact mkMid _ (show RoomS w _ (so7c 1 0 (.slice none 0 0) false false false) from KK.out.1.set2 0 _) (KK.out.2.1.set2 HH.out.2.2.2.1 0 _) (KK.out.2.2.1.set2 0 _)
        · have hb1 : ¬ b < 1 := by omega
          go_wp2_with fail
          go_meet
          refine ⟨rfl, ?_⟩
          rw [E.out.1]
          exact mkMid _ (show RoomS w _ (so7c 1 0 (.slice none 0 0) false false false) from KK.out.1.set2 0 _) (KK.out.2.1.set2 HH.out.2.2.2.1 0 _) (KK.out.2.2.1.set2 0 _)
      · have e := KK.out.2.2.2
        rw [if_neg hb] at e
        obtain ⟨n, rfl⟩ : ∃ n : Nat, b = (n : Int) := ⟨b.toNat, by omega⟩
        rw [Int.toNat_natCast] at e
        have C := pullM g base m n D W0 HH.out.2.2.1 KK.out.2.1 (by omega) hcr
        unfold PullP at C
        obtain ⟨P, eP⟩ : ∃ P, P = spull m n := ⟨_, rfl⟩
        rw [← eP] at C e
        obtain ⟨M1, off, Y, s, f, bk⟩ := P
        dsimp only at C e
        obtain ⟨yn, eyn⟩ : ∃ yn, yn = Y.length := ⟨_, rfl⟩
        have E : Hid _ := And.intro e (And.intro C eyn)
        have hb1 : ¬ (n : Int) < 1 ∧ ¬ 1500 < (n : Int) := by omega
        clear e C eP eyn hb
        obtain ⟨hb1, hb2⟩ := hb1
        go_wp2_with (go_at_call 21; refine E.out.2.1.mono ?_; rintro e w1 ⟨rv, rfl, o1, r1, c1⟩; obtain ⟨ra, rc, er⟩ := own_form o1; rw [← E.out.2.2] at er; subst er; have A1 := KK.out.1.chg c1 HH.out.2.2.2.1; have qc0 : w1.cell? ⟨w.heap.size + 2, 0, none⟩ = some (.int .i64 0) := (bk_cell A1.b2 0).trans rfl; have qf0 : w1.frozen? ⟨w.heap.size + 2, 0, none⟩ = false := bk_free A1.b2 0; have qc1 : w1.cell? ⟨w.heap.size + 2, 1, none⟩ = some (.int .i64 0) := (bk_cell A1.b2 1).trans rfl; have qf1 : w1.frozen? ⟨w.heap.size + 2, 1, none⟩ = false := bk_free A1.b2 1; have qc2 : w1.cell? ⟨w.heap.size + 2, 2, none⟩ = some (.int .i64 0) := (bk_cell A1.b2 2).trans rfl; have qf2 : w1.frozen? ⟨w.heap.size + 2, 2, none⟩ = false := bk_free A1.b2 2; have qc3 : w1.cell? ⟨w.heap.size + 2, 3, none⟩ = some (.slice none 0 0) := (bk_cell A1.b2 3).trans rfl; have qf3 : w1.frozen? ⟨w.heap.size + 2, 3, none⟩ = false := bk_free A1.b2 3; have qc4 : w1.cell? ⟨w.heap.size + 2, 4, none⟩ = some (.bool false) := (bk_cell A1.b2 4).trans rfl; have qf4 : w1.frozen? ⟨w.heap.size + 2, 4, none⟩ = false := bk_free A1.b2 4; have qc5 : w1.cell? ⟨w.heap.size + 2, 5, none⟩ = some (.bool false) := (bk_cell A1.b2 5).trans rfl; have qf5 : w1.frozen? ⟨w.heap.size + 2, 5, none⟩ = false := bk_free A1.b2 5; have qc6 : w1.cell? ⟨w.heap.size + 2, 6, none⟩ = some (.bool false) := (bk_cell A1.b2 6).trans rfl; have qf6 : w1.frozen? ⟨w.heap.size + 2, 6, none⟩ = false := bk_free A1.b2 6; have hs1 : w.heap.size + 2 < w1.heap.size := A1.lt; have H1 : Hid _ := And.intro r1 (And.intro A1 (And.intro c1 o1)); clear r1 A1 c1 o1)
        go_meet
        refine ⟨rfl, ?_⟩
        rw [E.out.1]
        have cS := put7_chg w1 (w.heap.size + 2) 0 (off : Int) (.slice ra yn rc) s f bk
        exact ⟨_, ⟨(cS.block _ (by omega) (by omega)).trans H1.out.2.1.b1, put7_blk H1.out.2.1.b2 0 (off : Int) (.slice ra yn rc) s f bk⟩, (LeftQ.of (N := w.heap.size + 3) H1.out.1 (fun t ht e => HH.out.2.2.2.1 t (by have := (H1.out.2.2.2.lt t ht).1; omega) e)).chg cS (fun t ht => ⟨HH.out.2.2.2.1 t (by have e : t = w.heap.size + 2 := ht; omega), by have e : t = w.heap.size + 2 := ht; omega⟩), (KK.out.2.2.1.trans H1.out.2.2.1).new cS (by omega), owns_mono (ownsChg cS H1.out.2.2.2 (fun t ht e => by have t1 := (H1.out.2.2.2.lt t ht).1; have e : t = w.heap.size + 2 := e; omega)) (by omega)⟩
    rw [if_neg k4] at eS
    by_cases k5 : k = 5
    · subst k5
      rw [if_pos rfl] at eS
      have C := heardM g base m a b fb 2 (by decide) D (WQ w 5 a b (.slice ua un uc) fb) HH.out.2.2.1 R3 h1' h2'
      have H0 : Hid _ := And.intro C (And.intro after eS)
      clear C A0 B3 R3 row3 after eS
      go_wp2_with (go_at_call 22; refine H0.out.1.mono ?_; rintro e w1 ⟨rfl, r1, c1⟩; obtain ⟨A1, c1'⟩ := H0.out.2.1 w1 c1; have zc0 : w1.cell? ⟨w.heap.size + 2, 0, none⟩ = some (.int .i64 0) := (bk_cell A1.b2 0).trans rfl; have zf0 : w1.frozen? ⟨w.heap.size + 2, 0, none⟩ = false := bk_free A1.b2 0; have hs1 : w.heap.size + 2 < w1.heap.size := A1.lt; have H1 : Hid _ := And.intro r1 (And.intro A1 c1'); clear r1 A1 c1 c1')
      go_meet
      refine ⟨rfl, ?_⟩
      rw [H0.out.2.2]
      exact midCode _ _ HH.out.2.2.2.1 H1.out.2.1 (LeftQ.of0 H1.out.1) H1.out.2.2
    rw [if_neg k5] at eS
    by_cases k6 : k = 6
    · subst k6
      rw [if_pos rfl] at eS
      have C := heardM g base m a b fb 3 (by decide) D (WQ w 6 a b (.slice ua un uc) fb) HH.out.2.2.1 R3 h1' h2'
      have H0 : Hid _ := And.intro C (And.intro after eS)
      clear C A0 B3 R3 row3 after eS
      go_wp2_with (go_at_call 22; refine H0.out.1.mono ?_; rintro e w1 ⟨rfl, r1, c1⟩; obtain ⟨A1, c1'⟩ := H0.out.2.1 w1 c1; have zc0 : w1.cell? ⟨w.heap.size + 2, 0, none⟩ = some (.int .i64 0) := (bk_cell A1.b2 0).trans rfl; have zf0 : w1.frozen? ⟨w.heap.size + 2, 0, none⟩ = false := bk_free A1.b2 0; have hs1 : w.heap.size + 2 < w1.heap.size := A1.lt; have H1 : Hid _ := And.intro r1 (And.intro A1 c1'); clear r1 A1 c1 c1')
      go_meet
      refine ⟨rfl, ?_⟩
      rw [H0.out.2.2]
      exact midCode _ _ HH.out.2.2.2.1 H1.out.2.1 (LeftQ.of0 H1.out.1) H1.out.2.2
    rw [if_neg k6] at eS
    by_cases k7 : k = 7
    · subst k7
      rw [if_pos rfl] at eS
      obtain ⟨W0, eW0⟩ : ∃ x, x = ((w.alloc (.cells #[.int .i64 7, .int .i64 a, .int .i64 b, .slice ua un uc, .bool fb] 32)).alloc (.cells #[.int .i64 0, .int .i64 0, .int .i64 0, .slice none 0 0, .bool false, .bool false, .bool false] 30)).alloc (.cells #[.int .i64 0, .int .i64 0, .int .i64 0, .slice none 0 0, .bool false, .bool false, .bool false] 30) := ⟨_, rfl⟩
      have KA : RoomS w W0 (so7c 0 0 (.slice none 0 0) false false false) := by rw [eW0]; exact A0.1
      have KB : W0.heap[w.heap.size]? = some (opB 7 a b (.slice ua un uc) fb) := by rw [eW0]; exact A0.2
      have KR : QRep W0 D g base m := by rw [eW0]; exact R3
      have KC : Chg D w W0 := by rw [eW0]; exact Chg.of_below B3
      have hs0 : w.heap.size + 2 < W0.heap.size := KA.lt
      rw [← eW0]
      clear eW0 A0 B3 R3 row3 after s3 hsz
      have bx0 : W0.cell? ⟨w.heap.size, 0, none⟩ = some (.int .i64 7) := (bk_cell KB 0).trans rfl
      have bx1 : W0.cell? ⟨w.heap.size, 1, none⟩ = some (.int .i64 a) := (bk_cell KB 1).trans rfl
      have bx2 : W0.cell? ⟨w.heap.size, 2, none⟩ = some (.int .i64 b) := (bk_cell KB 2).trans rfl
      have bx3 : W0.cell? ⟨w.heap.size, 3, none⟩ = some (.slice ua un uc) := (bk_cell KB 3).trans rfl
      have bx4 : W0.cell? ⟨w.heap.size, 4, none⟩ = some (.bool fb) := (bk_cell KB 4).trans rfl
      have zc0 : W0.cell? ⟨w.heap.size + 2, 0, none⟩ = some (.int .i64 0) := (bk_cell KA.b2 0).trans rfl
      have zf0 : W0.frozen? ⟨w.heap.size + 2, 0, none⟩ = false := bk_free KA.b2 0
      have zc1 : W0.cell? ⟨w.heap.size + 2, 1, none⟩ = some (.int .i64 0) := (bk_cell KA.b2 1).trans rfl
      have zf1 : W0.frozen? ⟨w.heap.size + 2, 1, none⟩ = false := bk_free KA.b2 1
      have zc2 : W0.cell? ⟨w.heap.size + 2, 2, none⟩ = some (.int .i64 0) := (bk_cell KA.b2 2).trans rfl
      have zf2 : W0.frozen? ⟨w.heap.size + 2, 2, none⟩ = false := bk_free KA.b2 2
      have zc3 : W0.cell? ⟨w.heap.size + 2, 3, none⟩ = some (.slice none 0 0) := (bk_cell KA.b2 3).trans rfl
      have zf3 : W0.frozen? ⟨w.heap.size + 2, 3, none⟩ = false := bk_free KA.b2 3
      have zc4 : W0.cell? ⟨w.heap.size + 2, 4, none⟩ = some (.bool false) := (bk_cell KA.b2 4).trans rfl
      have zf4 : W0.frozen? ⟨w.heap.size + 2, 4, none⟩ = false := bk_free KA.b2 4
      have zc5 : W0.cell? ⟨w.heap.size + 2, 5, none⟩ = some (.bool false) := (bk_cell KA.b2 5).trans rfl
      have zf5 : W0.frozen? ⟨w.heap.size + 2, 5, none⟩ = false := bk_free KA.b2 5
      have zc6 : W0.cell? ⟨w.heap.size + 2, 6, none⟩ = some (.bool false) := (bk_cell KA.b2 6).trans rfl
      have zf6 : W0.frozen? ⟨w.heap.size + 2, 6, none⟩ = false := bk_free KA.b2 6
      obtain ⟨d0, d2, -, -, f0, f2, -, -⟩ := KR.cells
      obtain ⟨d1, f1⟩ := KR.more
      have KK : Hid _ := And.intro KA (And.intro KR (And.intro KC eS))
      clear KA KB KR KC eS
      have LV : ∀ u : World, QRep u D g base m → Calls Tryd.prog 23 #[.pointer (some ⟨g, 0, none⟩)] u fun e w' => e = .returned (.bool m.live) ∧ w' = u := fun u hu => by
        obtain ⟨vd, vh, hb, hA⟩ := hu
        exact liveM g m.st m.credit m.next m.fin m.finish vd vh u hb
      have C := LV W0 KK.out.2.1
      have e := KK.out.2.2.2
      clear LV
      cases hv : m.live
      · rw [hv] at C e
        rw [if_neg (by decide)] at e
        have E : Hid _ := And.intro e C
        clear e C
        go_wp2_with (go_at_call 23; refine E.out.2.mono ?_; rintro e w1 ⟨rfl, hw1⟩; subst w1)
        go_meet
        refine ⟨rfl, ?_⟩
        rw [E.out.1]
        exact mkMid _ (show RoomS w _ (so7c 7 0 (.slice none 0 0) false false false) from KK.out.1.set2 0 _) (KK.out.2.1.set2 HH.out.2.2.2.1 0 _) (KK.out.2.2.1.set2 0 _)
      · rw [hv] at C e
        rw [if_pos rfl] at e
        have E : Hid _ := And.intro e C
        clear e C
        go_wp2_with (go_at_call 23; refine E.out.2.mono ?_; rintro e w1 ⟨rfl, hw1⟩; subst w1)
        go_meet
        refine ⟨rfl, ?_⟩
        rw [E.out.1]
        exact mkMid _ (show RoomS w _ (so7c 0 (m.next : Int) (.slice none 0 0) false false false) from (KK.out.1.setG hgl 0 _).set2 2 _) ((KK.out.2.1.setSt 4).set2 HH.out.2.2.2.1 2 _) ((KK.out.2.2.1.trans (chgG KK.out.2.1.dgQ 0 _)).set2 2 _)
    rw [if_neg k7] at eS
    by_cases k8 : k = 8
    · subst k8
      rw [if_pos rfl] at eS
      obtain ⟨W0, eW0⟩ : ∃ x, x = ((w.alloc (.cells #[.int .i64 8, .int .i64 a, .int .i64 b, .slice ua un uc, .bool fb] 32)).alloc (.cells #[.int .i64 0, .int .i64 0, .int .i64 0, .slice none 0 0, .bool false, .bool false, .bool false] 30)).alloc (.cells #[.int .i64 0, .int .i64 0, .int .i64 0, .slice none 0 0, .bool false, .bool false, .bool false] 30) := ⟨_, rfl⟩
      have KA : RoomS w W0 (so7c 0 0 (.slice none 0 0) false false false) := by rw [eW0]; exact A0.1
      have KB : W0.heap[w.heap.size]? = some (opB 8 a b (.slice ua un uc) fb) := by rw [eW0]; exact A0.2
      have KR : QRep W0 D g base m := by rw [eW0]; exact R3
      have KC : Chg D w W0 := by rw [eW0]; exact Chg.of_below B3
      have hs0 : w.heap.size + 2 < W0.heap.size := KA.lt
      rw [← eW0]
      clear eW0 A0 B3 R3 row3 after s3 hsz
      have bx0 : W0.cell? ⟨w.heap.size, 0, none⟩ = some (.int .i64 8) := (bk_cell KB 0).trans rfl
      have bx1 : W0.cell? ⟨w.heap.size, 1, none⟩ = some (.int .i64 a) := (bk_cell KB 1).trans rfl
      have bx2 : W0.cell? ⟨w.heap.size, 2, none⟩ = some (.int .i64 b) := (bk_cell KB 2).trans rfl
      have bx3 : W0.cell? ⟨w.heap.size, 3, none⟩ = some (.slice ua un uc) := (bk_cell KB 3).trans rfl
      have bx4 : W0.cell? ⟨w.heap.size, 4, none⟩ = some (.bool fb) := (bk_cell KB 4).trans rfl
      have zc0 : W0.cell? ⟨w.heap.size + 2, 0, none⟩ = some (.int .i64 0) := (bk_cell KA.b2 0).trans rfl
      have zf0 : W0.frozen? ⟨w.heap.size + 2, 0, none⟩ = false := bk_free KA.b2 0
      have zc1 : W0.cell? ⟨w.heap.size + 2, 1, none⟩ = some (.int .i64 0) := (bk_cell KA.b2 1).trans rfl
      have zf1 : W0.frozen? ⟨w.heap.size + 2, 1, none⟩ = false := bk_free KA.b2 1
      have zc2 : W0.cell? ⟨w.heap.size + 2, 2, none⟩ = some (.int .i64 0) := (bk_cell KA.b2 2).trans rfl
      have zf2 : W0.frozen? ⟨w.heap.size + 2, 2, none⟩ = false := bk_free KA.b2 2
      have zc3 : W0.cell? ⟨w.heap.size + 2, 3, none⟩ = some (.slice none 0 0) := (bk_cell KA.b2 3).trans rfl
      have zf3 : W0.frozen? ⟨w.heap.size + 2, 3, none⟩ = false := bk_free KA.b2 3
      have zc4 : W0.cell? ⟨w.heap.size + 2, 4, none⟩ = some (.bool false) := (bk_cell KA.b2 4).trans rfl
      have zf4 : W0.frozen? ⟨w.heap.size + 2, 4, none⟩ = false := bk_free KA.b2 4
      have zc5 : W0.cell? ⟨w.heap.size + 2, 5, none⟩ = some (.bool false) := (bk_cell KA.b2 5).trans rfl
      have zf5 : W0.frozen? ⟨w.heap.size + 2, 5, none⟩ = false := bk_free KA.b2 5
      have zc6 : W0.cell? ⟨w.heap.size + 2, 6, none⟩ = some (.bool false) := (bk_cell KA.b2 6).trans rfl
      have zf6 : W0.frozen? ⟨w.heap.size + 2, 6, none⟩ = false := bk_free KA.b2 6
      obtain ⟨d0, d2, -, -, f0, f2, -, -⟩ := KR.cells
      obtain ⟨d1, f1⟩ := KR.more
      have KK : Hid _ := And.intro KA (And.intro KR (And.intro KC eS))
      clear KA KB KR KC eS
      have e := KK.out.2.2.2
      by_cases hv : m.st = 4
      · rw [if_pos hv] at e
        rw [hv] at d0
        have E : Hid _ := And.intro e hv
        clear e hv
        go_wp2_with fail
        go_meet
        refine ⟨rfl, ?_⟩
        rw [E.out.1]
        exact mkMid _ (KK.out.1.setG hgl 0 _) (KK.out.2.1.setSt 5) (KK.out.2.2.1.trans (chgG KK.out.2.1.dgQ 0 _))
      · rw [if_neg hv] at e
        have z4 : ((m.st : Int) == 4) = false := by simp; omega
        have E : Hid _ := And.intro e hv
        clear e hv
        go_wp2_with fail
        go_meet
        refine ⟨rfl, ?_⟩
        rw [E.out.1]
        exact mkMid _ (show RoomS w _ (so7c 7 0 (.slice none 0 0) false false false) from KK.out.1.set2 0 _) (KK.out.2.1.set2 HH.out.2.2.2.1 0 _) (KK.out.2.2.1.set2 0 _)
    rw [if_neg k8] at eS
    obtain ⟨W0, eW0⟩ : ∃ x, x = ((w.alloc (.cells #[.int .i64 k, .int .i64 a, .int .i64 b, .slice ua un uc, .bool fb] 32)).alloc (.cells #[.int .i64 0, .int .i64 0, .int .i64 0, .slice none 0 0, .bool false, .bool false, .bool false] 30)).alloc (.cells #[.int .i64 0, .int .i64 0, .int .i64 0, .slice none 0 0, .bool false, .bool false, .bool false] 30) := ⟨_, rfl⟩
    have KA : RoomS w W0 (so7c 0 0 (.slice none 0 0) false false false) := by rw [eW0]; exact A0.1
    have KB : W0.heap[w.heap.size]? = some (opB k a b (.slice ua un uc) fb) := by rw [eW0]; exact A0.2
    have KR : QRep W0 D g base m := by rw [eW0]; exact R3
    have KC : Chg D w W0 := by rw [eW0]; exact Chg.of_below B3
    have hs0 : w.heap.size + 2 < W0.heap.size := KA.lt
    rw [← eW0]
    clear eW0 A0 B3 R3 row3 after s3 hsz
    have bx0 : W0.cell? ⟨w.heap.size, 0, none⟩ = some (.int .i64 k) := (bk_cell KB 0).trans rfl
    have bx1 : W0.cell? ⟨w.heap.size, 1, none⟩ = some (.int .i64 a) := (bk_cell KB 1).trans rfl
    have bx2 : W0.cell? ⟨w.heap.size, 2, none⟩ = some (.int .i64 b) := (bk_cell KB 2).trans rfl
    have bx3 : W0.cell? ⟨w.heap.size, 3, none⟩ = some (.slice ua un uc) := (bk_cell KB 3).trans rfl
    have bx4 : W0.cell? ⟨w.heap.size, 4, none⟩ = some (.bool fb) := (bk_cell KB 4).trans rfl
    have zc0 : W0.cell? ⟨w.heap.size + 2, 0, none⟩ = some (.int .i64 0) := (bk_cell KA.b2 0).trans rfl
    have zf0 : W0.frozen? ⟨w.heap.size + 2, 0, none⟩ = false := bk_free KA.b2 0
    have zc1 : W0.cell? ⟨w.heap.size + 2, 1, none⟩ = some (.int .i64 0) := (bk_cell KA.b2 1).trans rfl
    have zf1 : W0.frozen? ⟨w.heap.size + 2, 1, none⟩ = false := bk_free KA.b2 1
    have zc2 : W0.cell? ⟨w.heap.size + 2, 2, none⟩ = some (.int .i64 0) := (bk_cell KA.b2 2).trans rfl
    have zf2 : W0.frozen? ⟨w.heap.size + 2, 2, none⟩ = false := bk_free KA.b2 2
    have zc3 : W0.cell? ⟨w.heap.size + 2, 3, none⟩ = some (.slice none 0 0) := (bk_cell KA.b2 3).trans rfl
    have zf3 : W0.frozen? ⟨w.heap.size + 2, 3, none⟩ = false := bk_free KA.b2 3
    have zc4 : W0.cell? ⟨w.heap.size + 2, 4, none⟩ = some (.bool false) := (bk_cell KA.b2 4).trans rfl
    have zf4 : W0.frozen? ⟨w.heap.size + 2, 4, none⟩ = false := bk_free KA.b2 4
    have zc5 : W0.cell? ⟨w.heap.size + 2, 5, none⟩ = some (.bool false) := (bk_cell KA.b2 5).trans rfl
    have zf5 : W0.frozen? ⟨w.heap.size + 2, 5, none⟩ = false := bk_free KA.b2 5
    have zc6 : W0.cell? ⟨w.heap.size + 2, 6, none⟩ = some (.bool false) := (bk_cell KA.b2 6).trans rfl
    have zf6 : W0.frozen? ⟨w.heap.size + 2, 6, none⟩ = false := bk_free KA.b2 6
    obtain ⟨d0, d2, -, -, f0, f2, -, -⟩ := KR.cells
    obtain ⟨d1, f1⟩ := KR.more
    have KK : Hid _ := And.intro KA (And.intro KR (And.intro KC eS))
    clear KA KB KR KC eS
    have n1 : (k == 1) = false := by simpa using k1
    have n2 : (k == 2) = false := by simpa using k2
    have n3 : (k == 3) = false := by simpa using k3
    have n4 : (k == 4) = false := by simpa using k4
    have n5 : (k == 5) = false := by simpa using k5
    have n6 : (k == 6) = false := by simpa using k6
    have n7 : (k == 7) = false := by simpa using k7
    have n8 : (k == 8) = false := by simpa using k8
    clear k1 k2 k3 k4 k5 k6 k7 k8
    go_wp2_with fail
    go_meet
    refine ⟨rfl, ?_⟩
    rw [KK.out.2.2.2]
    exact mkMid _ (show RoomS w _ (so7c 1 0 (.slice none 0 0) false false false) from KK.out.1.set2 0 _) (KK.out.2.1.set2 HH.out.2.2.2.1 0 _) (KK.out.2.2.1.set2 0 _)
  case rest =>
  obtain ⟨rfl, rv, A1, l1, c1, o1⟩ := hcut
  obtain ⟨ra, rc, er⟩ := own_form o1
  obtain ⟨n, en⟩ : ∃ n, n = S.2.f3.length := ⟨_, rfl⟩
  rw [← en] at er
  subst er
  have d1 := l1.c0
  rw [← HH.out.2.2.2.2.2] at d1
  obtain ⟨q0, e0⟩ : ∃ q, q = S.2.f0 := ⟨_, rfl⟩
  obtain ⟨q1, e1⟩ : ∃ q, q = S.2.f1 := ⟨_, rfl⟩
  obtain ⟨q2, e2⟩ : ∃ q, q = S.2.f2 := ⟨_, rfl⟩
  obtain ⟨q4, e4⟩ : ∃ q, q = S.2.f4 := ⟨_, rfl⟩
  obtain ⟨q5, e5⟩ : ∃ q, q = S.2.f5 := ⟨_, rfl⟩
  obtain ⟨q6, e6⟩ : ∃ q, q = S.2.f6 := ⟨_, rfl⟩
  rw [← e0, ← e2, ← e4, ← e5, ← e6] at A1
  rw [← e1] at d1
  have HE : Hid _ := And.intro e0 (And.intro e1 (And.intro e2 (And.intro e4 (And.intro e5 e6))))
  have xc0 : wc.cell? ⟨w.heap.size + 2, 0, none⟩ = some (.int .i64 q0) := (bk_cell A1.b2 0).trans rfl
  have xf0 : wc.frozen? ⟨w.heap.size + 2, 0, none⟩ = false := bk_free A1.b2 0
  have xc1 : wc.cell? ⟨w.heap.size + 2, 1, none⟩ = some (.int .i64 0) := (bk_cell A1.b2 1).trans rfl
  have xf1 : wc.frozen? ⟨w.heap.size + 2, 1, none⟩ = false := bk_free A1.b2 1
  have xc2 : wc.cell? ⟨w.heap.size + 2, 2, none⟩ = some (.int .i64 q2) := (bk_cell A1.b2 2).trans rfl
  have xf2 : wc.frozen? ⟨w.heap.size + 2, 2, none⟩ = false := bk_free A1.b2 2
  have xc3 : wc.cell? ⟨w.heap.size + 2, 3, none⟩ = some (.slice ra n rc) := (bk_cell A1.b2 3).trans rfl
  have xf3 : wc.frozen? ⟨w.heap.size + 2, 3, none⟩ = false := bk_free A1.b2 3
  have xc4 : wc.cell? ⟨w.heap.size + 2, 4, none⟩ = some (.bool q4) := (bk_cell A1.b2 4).trans rfl
  have xf4 : wc.frozen? ⟨w.heap.size + 2, 4, none⟩ = false := bk_free A1.b2 4
  have xc5 : wc.cell? ⟨w.heap.size + 2, 5, none⟩ = some (.bool q5) := (bk_cell A1.b2 5).trans rfl
  have xf5 : wc.frozen? ⟨w.heap.size + 2, 5, none⟩ = false := bk_free A1.b2 5
  have xc6 : wc.cell? ⟨w.heap.size + 2, 6, none⟩ = some (.bool q6) := (bk_cell A1.b2 6).trans rfl
  have xf6 : wc.frozen? ⟨w.heap.size + 2, 6, none⟩ = false := bk_free A1.b2 6
  have yc0 : wc.cell? ⟨w.heap.size + 1, 0, none⟩ = some (.int .i64 0) := (bk_cell A1.b1 0).trans rfl
  have yf0 : wc.frozen? ⟨w.heap.size + 1, 0, none⟩ = false := bk_free A1.b1 0
  have yc1 : wc.cell? ⟨w.heap.size + 1, 1, none⟩ = some (.int .i64 0) := (bk_cell A1.b1 1).trans rfl
  have yf1 : wc.frozen? ⟨w.heap.size + 1, 1, none⟩ = false := bk_free A1.b1 1
  have yc2 : wc.cell? ⟨w.heap.size + 1, 2, none⟩ = some (.int .i64 0) := (bk_cell A1.b1 2).trans rfl
  have yf2 : wc.frozen? ⟨w.heap.size + 1, 2, none⟩ = false := bk_free A1.b1 2
  have yc3 : wc.cell? ⟨w.heap.size + 1, 3, none⟩ = some (.slice none 0 0) := (bk_cell A1.b1 3).trans rfl
  have yf3 : wc.frozen? ⟨w.heap.size + 1, 3, none⟩ = false := bk_free A1.b1 3
  have yc4 : wc.cell? ⟨w.heap.size + 1, 4, none⟩ = some (.bool false) := (bk_cell A1.b1 4).trans rfl
  have yf4 : wc.frozen? ⟨w.heap.size + 1, 4, none⟩ = false := bk_free A1.b1 4
  have yc5 : wc.cell? ⟨w.heap.size + 1, 5, none⟩ = some (.bool false) := (bk_cell A1.b1 5).trans rfl
  have yf5 : wc.frozen? ⟨w.heap.size + 1, 5, none⟩ = false := bk_free A1.b1 5
  have yc6 : wc.cell? ⟨w.heap.size + 1, 6, none⟩ = some (.bool false) := (bk_cell A1.b1 6).trans rfl
  have yf6 : wc.frozen? ⟨w.heap.size + 1, 6, none⟩ = false := bk_free A1.b1 6
  have hsz : w.heap.size + 2 < wc.heap.size := A1.lt
  have H1 : Hid _ := And.intro A1 (And.intro l1 (And.intro c1 o1))
  clear A1 l1 c1 o1 e0 e1 e2 e4 e5 e6 en
  go_wp2_with fail
  have cS : Chg (fun t => t = w.heap.size + 2 ∨ t = w.heap.size + 1) wc (putO (wc.setCell ⟨w.heap.size + 2, 1, none⟩ (.int .i64 q1)) (w.heap.size + 1) q0 q1 q2 (.slice ra n rc) q4 q5 q6) :=
    ((chg_of_eq wc).set' (w.heap.size + 2) 1 _ (Or.inl rfl)).trans ((putO_chg _ _ _ _ _ _ _ _ _).mono' (fun k _ e => Or.inr e))
  exact bodyPost_ret (v := .agg (so7s q0 q1 q2 (.slice ra n rc) q4 q5 q6)) (results_cell_row (t := 30) rfl _ _ (w.heap.size + 1) _ (fr := (0, 0)) _ rfl (putO_blk ((bk_other (by omega) 1 _).trans H1.out.1.b1) q0 q1 q2 (.slice ra n rc) q4 q5 q6) Tryd.underlying30 rfl infoSObs) rfl ⟨_, by rw [← HE.out.1, ← HE.out.2.1, ← HE.out.2.2.1, ← HE.out.2.2.2.1, ← HE.out.2.2.2.2.1, ← HE.out.2.2.2.2.2], ownsChg cS H1.out.2.2.2 (fun t ht e => by have t1 := (H1.out.2.2.2.lt t ht).1; omega), H1.out.2.1.chg cS (fun t ht => ⟨HH.out.2.2.2.1 t (by omega), by omega⟩), H1.out.2.2.1.newS cS (fun t ht => by omega)⟩
end Go.Proofs.YtpdclbfjngmppaaDoor

namespace Go.Proofs.YtpdclbfjngmppaaDoor
open Go.RowKit
set_option linter.unusedVariables false
set_option linter.unusedSimpArgs false

/-- 'append(own, x)' of an observation. -/
theorem wpList_append7 {w : World} {ops : Array Oper} {rest : List Oper} {o : Oper} {a : Act} {Q : Exit → Act → World → Prop} (hgd : o.guard = none) (p q : Operand)
    (ho : o.op = .call { callee := .builtin .append, args := #[p, q], argTypes := #[25, 25] })
    (base : Nat) (v : Value) (n : Nat) (ys : List Value) (hp : a.eval p = v) (hown : w.ownsRow base 30 7 v n ys) (g : Nat) (x0 x1 x2 x3 x4 x5 x6 : Value) (hx : x0.oneCell' = true ∧ x1.oneCell' = true ∧ x2.oneCell' = true ∧ x3.oneCell' = true ∧ x4.oneCell' = true ∧ x5.oneCell' = true ∧ x6.oneCell' = true)
    (hq : a.eval q = .slice (some ⟨g, 0, none⟩) 1 1) (hc : w.heap[g]? = some (.cells #[x0, x1, x2, x3, x4, x5, x6] 30 (0, 0))) (h63 : n + 1 ≤ 1099511627776) (hbase : base ≤ w.heap.size)
    (h : ∀ v' w', w'.ownsRow base 30 7 v' (n + 1) (ys ++ [x0, x1, x2, x3, x4, x5, x6]) → w.grownBy w' v.ownBlock → (v'.ownBlock = v.ownBlock ∨ v'.ownBlock = some w.heap.size) → wpList Tryd.prog ops Q rest (a.put o.dst v') w') :
    wpList Tryd.prog ops Q (o :: rest) a w := by
  obtain ⟨i0, hi, hz0, hz1, hz2⟩ := info_parts infoSendObs
  refine wpList_append_own_at w hgd p q 25 ho base 30 i0 _ 7 56 Tryd.underlying25 hi hz0 hz1 hz2 rfl (by decide) v n ys hp hown ⟨g, 0, none⟩ 1 1 [x0, x1, x2, x3, x4, x5, x6] hq rfl ?_ ?_ (by unfold maxLen; omega) (by omega) hbase ?_
  · intro j u hj
    rw [Go.WideShapes.add_plain]
    have e := bk_cell hc (0 + j)
    rw [e, Nat.zero_add]
    have hl : j < 7 := by have := (List.getElem?_eq_some_iff.1 hj).1; simpa using this
    rw [← hj]
    obtain rfl | rfl | rfl | rfl | rfl | rfl | rfl : j = 0 ∨ j = 1 ∨ j = 2 ∨ j = 3 ∨ j = 4 ∨ j = 5 ∨ j = 6 := by omega
    all_goals rfl
  · intro u hu
    simp only [List.mem_cons, List.not_mem_nil, or_false] at hu
    obtain ⟨a0, a1, a2, a3, a4, a5, a6⟩ := hx
    rcases hu with rfl | rfl | rfl | rfl | rfl | rfl | rfl <;> assumption
  · intro v' w' ho' hg _ hat
    exact h v' w' ho' hg hat
/-- Behind k operations. -/
structure SpQ (g : Nat) (R : List SSendOp) (w wr : World) (k : Nat) (zs : List Value) (U : Nat → Value) (ro : Value) (D : Nat → Prop) : Prop where
  zl : zs.length = k * 7
  ow : wr.ownsRow w.heap.size 30 7 ro k zs
  cs : ∀ j, j < k → ∀ f, f < 7 → zs[j * 7 + f]? = ((sstep (srun R j).1 (R.getD j default)).2.c (U j))[f]?
  inn : ∀ j, j < k → wr.ownsRow w.heap.size 5 1 (U j) (sstep (srun R j).1 (R.getD j default)).2.d.length ((sstep (srun R j).1 (R.getD j default)).2.d.map (Value.int .u8))
  ap : ∀ (i j : Nat), i < j → j < k → ∀ t, (U j).ownBlock = some t → some t ≠ (U i).ownBlock
  rep : QRep wr D g w.heap.size (srun R k).1
  dr : ∀ t, ro.ownBlock = some t → ¬ D t
  du : ∀ j, j < k → ∀ t, (U j).ownBlock = some t → ¬ D t
  db : ∀ t, D t → w.heap.size ≤ t
  bw : Below w.heap.size w wr
def SpQI (g : Nat) (R : List SSendOp) (w wr : World) (k : Nat) (ro : Value) : Prop := ∃ zs U D, SpQ g R w wr k zs U ro D
/-- One round: from the part behind its step, and the observation appended. -/
theorem SpQ.next {g k : Nat} {R : List SSendOp} {w wr w3 w6 : World} {zs : List Value} {U : Nat → Value} {ro ro' r : Value} {D D' : Nat → Prop} (h : SpQ g R w wr k zs U ro D)
    (st : SS × SSendObs) (est : st = sstep (srun R k).1 (R.getD k default))
    (c3 : Chg D wr w3) (hD' : ∀ t, D' t → D t ∨ (wr.heap.size ≤ t ∧ t < w3.heap.size)) (rep3 : QRep w3 D' g w.heap.size st.1) (or3 : w3.ownsRow wr.heap.size 5 1 r st.2.d.length (st.2.d.map (Value.int .u8))) (hrD : ∀ t, r.ownBlock = some t → ¬ D' t)
    (c6 : Chg (fun t => some t = ro.ownBlock) w3 w6) (o6 : w6.ownsRow w.heap.size 30 7 ro' (k + 1) (zs ++ st.2.c r)) (a6 : ro'.ownBlock = ro.ownBlock ∨ ∃ t, ro'.ownBlock = some t ∧ w3.heap.size ≤ t) :
    SpQ g R w w6 (k + 1) (zs ++ st.2.c r) (fun j => if j = k then r else U j) ro' D' := by
  have hb := h.bw.size
  have hz3 := c3.size
  have frow : ∀ t, D' t → w.heap.size ≤ t := fun t ht => (hD' t ht).elim (h.db t) (fun x => by omega)
  have roD' : ∀ t, ro.ownBlock = some t → ¬ D' t := fun t ht e => (hD' t e).elim (h.dr t ht) (fun x => by have := (h.ow.lt t ht).2; omega)
  have c6D : ∀ t, D' t → ¬ (some t = ro.ownBlock) := fun t ht e => roD' t e.symm ht
  have innw : ∀ j, j < k → w6.ownsRow w.heap.size 5 1 (U j) (sstep (srun R j).1 (R.getD j default)).2.d.length ((sstep (srun R j).1 (R.getD j default)).2.d.map (Value.int .u8)) := fun j hj => ownsChg c6 (ownsChg c3 (h.inn j hj) (fun t ht => h.du j hj t ht)) (fun t ht e => own_two (by decide) (h.inn j hj) h.ow t ht e)
  have r6 : w6.ownsRow wr.heap.size 5 1 r st.2.d.length (st.2.d.map (Value.int .u8)) := ownsChg c6 or3 (fun t ht e => by have h1 := (or3.lt t ht).1; have h2 := (h.ow.lt t e.symm).2; omega)
  have e1 : (srun R (k + 1)).1 = st.1 := by rw [est]; rfl
  refine ⟨by rw [List.length_append, h.zl]; simp [SSendObs.c]; omega, o6, fun j hj f hf => ?_, fun j hj => ?_, fun i j hij hj t ht => ?_, ?_, fun t ht => ?_, fun j hj t ht => ?_, frow, ?_⟩
  · by_cases e : j = k
    · subst e
      rw [if_pos rfl, ← est, List.getElem?_append_right (by rw [h.zl]; omega), h.zl, Nat.add_sub_cancel_left]
    · rw [if_neg e, List.getElem?_append_left (by rw [h.zl]; exact jK_lt (by omega) hf)]
      exact h.cs j (by omega) f hf
  · by_cases e : j = k
    · rw [if_pos e, e, ← est]; exact owns_mono r6 hb
    · rw [if_neg e]; exact innw j (by omega)
  · by_cases e : j = k
    · subst e
      rw [if_pos rfl] at ht
      rw [if_neg (by omega)]
      intro e2
      have a1 := ((h.inn i hij).lt t e2.symm).2
      have a2 := (or3.lt t ht).1
      omega
    · rw [if_neg e] at ht
      rw [if_neg (by omega)]
      exact h.ap i j hij (by omega) t ht
  · rw [e1]; exact rep3.chgS c6 c6D
  · rcases a6 with e | ⟨t', e, ht'⟩
    · exact roD' t (by rw [← e]; exact ht)
    · have e4 : t = t' := Option.some.inj (ht.symm.trans e)
      intro hd
      have := rep3.ltQ t hd
      omega
  · by_cases e : j = k
    · rw [if_pos e] at ht; exact hrD t ht
    · rw [if_neg e] at ht
      intro hd
      rcases hD' t hd with x | x
      · exact h.du j (by omega) t ht x
      · have := ((h.inn j (by omega)).lt t ht).2; omega
  · have B1 : Below w.heap.size wr w3 := ⟨c3.os, c3.tape, c3.output, c3.size, fun t ht => c3.block t (by omega) (fun e => by have := h.db t e; omega)⟩
    have B2 : Below w.heap.size w3 w6 := ⟨c6.os, c6.tape, c6.output, c6.size, fun t ht => c6.block t (by omega) (fun e => by have := (h.ow.lt t e.symm).1; omega)⟩
    exact (h.bw.trans B1).trans B2
theorem lit7 (w : World) (x0 x1 x2 x3 x4 x5 x6 : Value) (t : TypeId) : (w.alloc (.cells #[x0, x1, x2, x3, x4, x5, x6] t)).heap[w.heap.size]? = some (.cells #[x0, x1, x2, x3, x4, x5, x6] t (0, 0)) := heap_alloc_new w _
theorem BOwns.lit0S {α : Type} [Inhabited α] (T : TypeId) (K : Nat) (hK : 0 < K) (c : α → Value → List Value) (d : α → List Int) (w : World) (base : Nat) (hb : base ≤ w.heap.size) : BOwns T K c d (w.alloc (.cells #[] T)) base (.slice (some ⟨w.heap.size, 0, none⟩) 0 0) [] :=
  ⟨fun _ => .slice none 0 0, ⟨[], World.ownsRow_lit _ #[] 0 hb (Nat.zero_le _) (by simp), fun j hj => by simp [zl] at hj⟩, fun j hj => by simp at hj, fun i j _ hj => by simp at hj⟩
set_option maxRecDepth 20000 in
set_option maxHeartbeats 8000000 in
theorem specLoopS (v : Value) (R : List SSendOp) (w : World) (row : BRow 5 SSendOp.c SSendOp.d w v R) (hn : R.length ≤ 400)
    (hd : ∀ j, j < R.length → (R.getD j default).d.length ≤ 1048576) (h1 : ∀ j, j < R.length → (R.getD j default).f1 ≤ 9223372036854775807) (h2 : ∀ j, j < R.length → (R.getD j default).f2 ≤ 9223372036854775807) :
    Calls Tryd.prog 5 #[v] w fun e w' => ∃ r, e = .returned (.tuple #[r, .int .i64 0]) ∧ BOwns 30 7 SSendObs.c SSendObs.d w' w.heap.size r (srun R R.length).2 ∧ Below w.heap.size w w' := by
  obtain ⟨ao, cp, ev⟩ := row.form
  obtain ⟨n, en⟩ : ∃ n, n = R.length := ⟨_, rfl⟩
  have HH : Hid _ := And.intro row (And.intro hd (And.intro h1 (And.intro h2 en)))
  rw [← en] at hn ev ⊢
  subst ev
  clear row hd h1 h2 en
  have hnI : (n : Int) ≤ 400 := by omega
  go_enter Tryd.func5, Tryd.ntmps5
  go_wp2_with fail
  go_loopg [5, 6] n (fun q ro i wr => ∃ k : Nat, k ≤ n ∧ q = n - k ∧ i = .int .i64 (k : Int) ∧ SpQI w.heap.size R w wr k ro)
  case atStart =>
    have e2 := bk_new2 w (.cells #[.int .i64 0, .int .i64 0, .int .i64 0, .int .i64 0, .bool false, .slice none 0 0, .slice none 0 0] 44) (.cells #[] 30)
    have B2 : Below w.heap.size w ((w.alloc (.cells #[.int .i64 0, .int .i64 0, .int .i64 0, .int .i64 0, .bool false, .slice none 0 0, .slice none 0 0] 44)).alloc (.cells #[] 30)) := ((Below.refl _ _).alloc (Nat.le_refl _) _).alloc (by simp) _
    refine ⟨0, by omega, by omega, rfl, [], fun _ => .slice none 0 0, fun t => t = w.heap.size, ⟨rfl, ?_, fun j hj => by omega, fun j hj => by omega, fun i j _ hj => by omega, ⟨.slice none 0 0, .slice none 0 0, e2.1, ⟨World.ownsRow_nil _ _ _ _, World.ownsRow_nil _ _ _ _, rfl, fun t ht => (by cases ht), fun t ht => (by cases ht), fun t ht => ?_, Nat.le_refl _⟩⟩, fun t ht => ?_, fun j hj => by omega, fun t ht => by rw [ht]; exact Nat.le_refl _, B2⟩⟩
    · have := World.ownsRow_lit (e := 30) (size := 7) (w.alloc (.cells #[.int .i64 0, .int .i64 0, .int .i64 0, .int .i64 0, .bool false, .slice none 0 0, .slice none 0 0] 44)) #[] 0 (base := w.heap.size) (by simp) (Nat.zero_le _) (by simp)
      simpa using this
    · rw [ht]; simp; omega
    · simp [Value.ownBlock] at ht; omega
  case round =>
    obtain ⟨k, hk, hq, rfl, zs, U, D, SJ⟩ := hrel
    by_cases hlt : k < n
    · obtain ⟨b, off, cap, ev, hbl, U0, hc, hr⟩ := HH.out.1.at' (by have := HH.out.2.2.2.2; omega)
      simp only [Value.slice.injEq] at ev
      obtain ⟨rfl, em2, rfl⟩ := ev
      clear em2
      have e0 := HH.out.2.2.2.2
      have hck := hc k (by omega)
      have hrk := (hr k (by omega)).below SJ.bw
      obtain ⟨uk, euk⟩ : ∃ u, u = U0 k := ⟨_, rfl⟩
      rw [← euk] at hck hrk
      obtain ⟨ua, uc, eu⟩ := hrk.form
      obtain ⟨un, eun⟩ : ∃ un, un = (R.getD k default).d.length := ⟨_, rfl⟩
      rw [← eun] at eu
      subst eu
      obtain ⟨o, eo⟩ : ∃ o, o = R.getD k default := ⟨_, rfl⟩
      have hdk := HH.out.2.1 k (by omega)
      have h1k := HH.out.2.2.1 k (by omega)
      have h2k := HH.out.2.2.2.1 k (by omega)
      rw [← eo] at hck hrk hdk h1k h2k
      obtain ⟨ra, rc', er⟩ := own_form SJ.ow
      have hbw := SJ.bw.size
      have hbr : b < wr.heap.size := by omega
      have c0 : wr.cell? ⟨b, off + k * 5, none⟩ = some (.int .i64 o.f0) := (SJ.bw.cell (p := ⟨b, off + (k * 5 + 0), none⟩) hbl).trans (hck 0 (by omega))
      have c1 : wr.cell? ⟨b, off + k * 5 + 1, none⟩ = some (.int .i64 o.f1) := (SJ.bw.cell (p := ⟨b, off + (k * 5 + 1), none⟩) hbl).trans (hck 1 (by omega))
      have c2 : wr.cell? ⟨b, off + k * 5 + 2, none⟩ = some (.int .i64 o.f2) := (SJ.bw.cell (p := ⟨b, off + (k * 5 + 2), none⟩) hbl).trans (hck 2 (by omega))
      have c3 : wr.cell? ⟨b, off + k * 5 + 3, none⟩ = some (.slice ua un uc) := (SJ.bw.cell (p := ⟨b, off + (k * 5 + 3), none⟩) hbl).trans (hck 3 (by omega))
      have c4 : wr.cell? ⟨b, off + k * 5 + 4, none⟩ = some (.bool o.f4) := (SJ.bw.cell (p := ⟨b, off + (k * 5 + 4), none⟩) hbl).trans (hck 4 (by omega))
      have hcr := srun_cr R (fun j hj => HH.out.2.2.2.1 j hj) k (by omega)
      have C := doM w.heap.size w.heap.size (srun R k).1 o ua un uc D wr (srun_SI R k) hcr SJ.rep hrk hdk h1k h2k hbw
      obtain ⟨ST, eST⟩ : ∃ ST, ST = sstep (srun R k).1 o := ⟨_, rfl⟩
      rw [← eST] at C
      rw [eo] at eST
      have hgr : w.heap.size < wr.heap.size := SJ.rep.ltQ _ SJ.rep.dgQ
      have H4 : Hid _ := And.intro SJ (And.intro C eST)
      clear SJ C eST hdk h1k h2k hck hrk hc hr euk eo eun e0 hcr
      subst er
      obtain ⟨x0, x1, x2, x3, x4⟩ := o
      dsimp only at *
      go_wp2_with (first
        | (go_at_call 14; refine H4.out.2.1.mono ?_; rintro e w3 ⟨r, rfl, o3, l3, c3⟩; obtain ⟨D1, r3, hD1, hrD⟩ := l3; have oz := ownsChg c3 H4.out.1.ow (fun t ht => H4.out.1.dr t ht); obtain ⟨ra3, rc3, er3⟩ := own_form o3; obtain ⟨n3, en3⟩ : ∃ n3, n3 = ST.2.f3.length := ⟨_, rfl⟩; rw [← en3] at er3; subst er3; have hz3 := c3.size; have H3 : Hid _ := And.intro o3 (And.intro r3 (And.intro hD1 (And.intro hrD (And.intro c3 oz)))); clear o3 r3 hD1 hrD c3 oz en3)
        | (at_builtin; refine wpList_append7 rfl (.tmp 20) (.tmp 27) rfl w.heap.size (.slice ra k rc') k zs rfl (owns_below H3.out.2.2.2.2.2 ((Below.refl _ _).alloc (Nat.le_refl _) _)) w3.heap.size (.int .i64 ST.2.f0) (.int .i64 ST.2.f1) (.int .i64 ST.2.f2) (.slice ra3 n3 rc3) (.bool ST.2.f4) (.bool ST.2.f5) (.bool ST.2.f6) ⟨rfl, rfl, rfl, rfl, rfl, rfl, rfl⟩ rfl (lit7 w3 _ _ _ _ _ _ _ _) (by omega) (by simp; omega) ?_; intro v6 w6 o6 g6 a6; obtain ⟨ra6, rc6, er6⟩ := own_form o6; have H6 : Hid _ := And.intro o6 (And.intro (grown_chg g6) a6); clear o6 g6 a6; subst er6))
      go_roundg (n - (k + 1))
      case measure => omega
      case rel =>
        have sz : w3.heap.size ≤ (w3.alloc (.cells #[.int .i64 ST.2.f0, .int .i64 ST.2.f1, .int .i64 ST.2.f2, .slice ra3 n3 rc3, .bool ST.2.f4, .bool ST.2.f5, .bool ST.2.f6] 30)).heap.size := by simp
        exact ⟨k + 1, by omega, rfl, by go_num, _, _, D1, SpQ.next H4.out.1 ST H4.out.2.2 H3.out.2.2.2.2.1 (fun t ht => (H3.out.2.2.1 t ht).imp id (fun z => ⟨by omega, z.2⟩)) H3.out.2.1 (owns_mono H3.out.1 (by omega)) H3.out.2.2.2.1 ((Chg.of_below ((Below.refl w3.heap.size w3).alloc (Nat.le_refl _) _)).trans H6.out.2.1) H6.out.1 (H6.out.2.2.imp id (fun e => ⟨_, e, sz⟩))⟩
    · obtain rfl : k = n := by omega
      obtain ⟨ra, rc', er⟩ := own_form SJ.ow
      subst er
      have H2H : Hid _ := And.intro SJ True.intro
      clear SJ
      go_wp2
      go_ret2
      obtain ⟨zl, ow, cs, inn, ap, rep, dr, du, db, bw⟩ := H2H.out.1
      refine ⟨_, rfl, ⟨U, ⟨zs, by rw [zl_length, srun_length]; exact ow, fun j hj f hf => ?_⟩, fun j hj => ?_, fun i j hij hj => ap i j hij (by rw [srun_length] at hj; exact hj)⟩, bw⟩
      · rw [zl_length, srun_length] at hj
        rw [zl_at _ _ _ _ (by rw [srun_length]; exact hj), srun_at R j k hj]
        exact cs j hj f hf
      · rw [srun_length] at hj
        rw [srun_at R j k hj]
        exact inn j hj
set_option maxRecDepth 20000 in
set_option maxHeartbeats 1000000 in
theorem specSR (v : Value) (R : List SSendOp) (w : World) (row : BRow 5 SSendOp.c SSendOp.d w v R) (hl : R.length ≤ 140737488355328)
    (hd : ∀ j, j < R.length → (R.getD j default).d.length ≤ 1048576) (h1 : ∀ j, j < R.length → (R.getD j default).f1 ≤ 9223372036854775807) (h2 : ∀ j, j < R.length → (R.getD j default).f2 ≤ 9223372036854775807) :
    Calls Tryd.prog 5 #[v] w fun e w' => ∃ r, e = .returned (.tuple #[r, .int .i64 (srC R)]) ∧ BOwns 30 7 SSendObs.c SSendObs.d w' w.heap.size r (srY R) ∧ Below w.heap.size w w' := by
  obtain ⟨ao, cp, ev⟩ := row.form
  by_cases a1 : 400 < R.length
  · have e1 : srC R = 4 := by unfold srC; rw [if_pos a1]
    have e2 : srY R = [] := by unfold srY; rw [if_pos a1]
    rw [e1, e2, ev]
    have a1' : (400 : Int) < (R.length : Int) := by omega
    generalize R.length = n at *
    clear row hd h1 h2
    go_enter Tryd.func5, Tryd.ntmps5
    go_wp2
    go_ret2
    exact ⟨_, rfl, BOwns.lit0S _ _ (by decide) _ _ w _ (Nat.le_refl _), (Below.refl _ _).alloc (Nat.le_refl _) _⟩
  have e1 : srC R = 0 := by unfold srC; rw [if_neg a1]
  have e2 : srY R = (srun R R.length).2 := by unfold srY; rw [if_neg a1]
  rw [e1, e2]
  exact specLoopS v R w row (by omega) hd h1 h2
/-- The bytes of an answer are not too many. -/
theorem sstep_len (m : SS) (o : SSendOp) (h : m.B.length ≤ 65536) : (sstep m o).2.d.length ≤ 65536 := by
  show (sstep m o).2.f3.length ≤ 65536
  unfold sstep
  split
  · exact Nat.zero_le _
  split
  · exact Nat.zero_le _
  split
  · exact Nat.zero_le _
  split
  · split
    · exact Nat.zero_le _
    · show (spull m o.f2.toNat).2.2.1.length ≤ _
      unfold spull
      split
      · exact Nat.zero_le _
      · split
        · exact Nat.zero_le _
        · simp only [List.length_take, List.length_drop]; omega
  split
  · exact Nat.zero_le _
  split
  · exact Nat.zero_le _
  split
  · split <;> exact Nat.zero_le _
  split
  · split <;> exact Nat.zero_le _
  · exact Nat.zero_le _
theorem srun_sum (R : List SSendOp) (n : Nat) : ∀ k, k ≤ n → sumB 6 SSendObs.d (srun R n).2 k ≤ 65542 * k
  | 0, _ => Nat.zero_le _
  | k + 1, hk => by
    have h1 := srun_sum R n k (by omega)
    have h2 := sstep_len (srun R k).1 (R.getD k default) (srun_SI R k).big
    have e := srun_at R k n (by omega)
    simp only [sumB]
    rw [e]
    omega
theorem srY_bound (R : List SSendOp) : (srY R).length ≤ 1048576 ∧ sumB 6 SSendObs.d (srY R) (srY R).length ≤ 1099511627776 := by
  unfold srY
  split
  · exact ⟨by simp, by simp [sumB]⟩
  · rename_i h
    rw [srun_length]
    have := srun_sum R R.length R.length (Nat.le_refl _)
    omega
theorem cell_ltS {w : World} {b o : Nat} {u : Value} (h : w.cell? ⟨b, o, none⟩ = some u) : b < w.heap.size := by
  refine Nat.lt_of_not_le (fun hn => ?_)
  have e : w.heap[b]? = none := Array.getElem?_eq_none (by omega)
  simp [World.cell?, e] at h
end Go.Proofs.YtpdclbfjngmppaaDoor
