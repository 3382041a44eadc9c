import Derived.Test.YtjikdecfampbiaaPhI
import Derived.Deep.LoopGhost
import Derived.Laws.Tables
namespace Go.Proofs.Ytjikdecfampbiaa
open Go.RowKit
set_option linter.unusedVariables false
set_option linter.unusedSimpArgs false

theorem runP (g base : Nat) (m : PX) (o : SPathOp) (dv : Value) (i : Nat) (w : World) (h : PRep w g base m) (hg : base ≤ g) (hI : PXI i m) (hi : i < 300) (hr : Row w .u8 dv o.f3) (hl : o.f3.length ≤ 1048576) (hbase : base ≤ w.heap.size) (hby : ∀ x ∈ o.f3, 0 ≤ x ∧ x < 256) :
    Calls Try.prog 20 #[.pointer (some ⟨g, 0, none⟩), .agg #[.int .i64 o.f0, .int .i64 o.f1, .int .i64 o.f2, dv]] w fun e w' => e = .returned (.agg #[.int .i64 (pobs (pstep m o)).f0, .int .i64 (pobs (pstep m o)).f1, .int .i64 (pobs (pstep m o)).f2, .bool (pobs (pstep m o)).f3, .bool (pobs (pstep m o)).f4]) ∧ PDo g base w w' (pstep m o).1 := by
  by_cases hc : o.f2 < 0 ∨ 255 < o.f2 ∨ o.f1 < 0 ∨ 2000 < o.f1
  · exact run_bad g base m o dv i w h hg hI hi hr hl hbase hby hc
  by_cases k1 : o.f0 = 1
  · exact run_came g base m o dv i w h hg hI hi hr hl hbase hby hc k1
  by_cases k2 : o.f0 = 2
  · exact run_send g base m o dv i w h hg hI hi hr hl hbase hby hc k2
  by_cases k3 : o.f0 = 3
  · exact run_chal g base m o dv i w h hg hI hi hr hl hbase hby hc k3
  by_cases k4 : o.f0 = 4
  · exact run_answ g base m o dv i w h hg hI hi hr hl hbase hby hc k4
  exact run_other g base m o dv i w h hg hI hi hr hl hbase hby hc ⟨k1, k2, k3, k4⟩
theorem ChS.ownsC {S : Nat → Prop} {T : TypeId} {base : Nat} {w w' : World} (h : ChS S T base w w') {b e s n : Nat} {v : Value} {xs : List Value} (ho : w.ownsRow b e s v n xs) (hne : e ≠ T) (hs : ∀ k, v.ownBlock = some k → ¬ S k) : w'.ownsRow b e s v n xs := by
  obtain ⟨hl, h2⟩ := ho
  refine ⟨hl, ?_⟩
  rcases h2 with h2 | ⟨g', cap, cur, rfl, hg, hh, r⟩
  · exact Or.inl h2
  · exact Or.inr ⟨g', cap, cur, rfl, hg, h.bk hh (Or.inr ⟨hs g' rfl, hne⟩), r⟩
theorem PRep.setO {W : World} {g base q : Nat} {m : PX} {c : Array Value} (h : PRep W g base m) (hb : W.heap[q]? = some (.cells c 41 (0, 0))) (hne : q ≠ g) (o : Nat) (v : Value) : PRep (W.setCell ⟨q, o, none⟩ v) g base m := by
  obtain ⟨wv, B, O⟩ := h
  exact ⟨wv, B.same (bk_other (Ne.symm hne) o v), O.set hb (by decide)⟩
theorem own_blk {w : World} {b e s n q cap : Nat} {xs : List Value} (h : w.ownsRow b e s (.slice (some ⟨q, 0, none⟩) n cap) n xs) : ∃ cur : Array Value, w.heap[q]? = some (.cells cur e (0, 0)) := by
  rcases h.2 with ⟨e, _⟩ | ⟨g', cap', cur, e, hg, hh, r⟩
  · exact absurd e (by simp)
  · simp only [Value.slice.injEq, Option.some.injEq, Addr.mk.injEq] at e
    obtain ⟨⟨rfl, -⟩, -, -⟩ := e
    exact ⟨cur, hh⟩
/-- Behind k operations. -/
structure RunPJ (g : Nat) (srv : Bool) (R : List SPathOp) (w0 w wr : World) (n k : Nat) (zs : List Value) : Prop where
  zl : zs.length = n * 5
  ow : wr.ownsRow w.heap.size 41 5 (.slice (some ⟨w.heap.size, 0, none⟩) n n) n zs
  cs : ∀ j, j < k → ∀ f, f < 5 → zs[j * 5 + f]? = (pobsAt srv R j).c[f]?
  rep : PRep wr g w0.heap.size (prunP srv R k)
  bw : Below w0.heap.size w0 wr
set_option maxRecDepth 20000 in
set_option maxHeartbeats 4000000 in
theorem runAllP (g : Nat) (srv : Bool) (v : Value) (R : List SPathOp) (w0 w : World) (hbel : Below w0.heap.size w0 w) (hg0 : w0.heap.size ≤ g) (row : BRow 4 SPathOp.c SPathOp.d w0 v R) (hn : R.length ≤ 300)
    (hd : ∀ j, j < R.length → (R.getD j default).d.length ≤ 1048576) (hby : ∀ j, ∀ x ∈ (R.getD j default).f3, 0 ≤ x ∧ x < 256) (hR : PRep w g w0.heap.size (prunP srv R 0)) :
    Calls Try.prog 18 #[v, .func (.func 20) #[.pointer (some ⟨g, 0, none⟩)] #[]] w fun e w' => ∃ r, e = .returned r ∧ GOwns 41 5 w' w0.heap.size r (SPathObs.L ((List.range R.length).map (pobsAt srv R))) ∧ Below w0.heap.size w0 w' := by
  obtain ⟨ao, cp, ev⟩ := row.form
  obtain ⟨i0, hi, hz0, hz1, hz2⟩ := info_parts infoPathObs
  obtain ⟨n, en⟩ : ∃ n, n = R.length := ⟨_, rfl⟩
  have HH : Hid _ := And.intro row (And.intro hd (And.intro hby (And.intro hR (And.intro hbel en))))
  have hglt : g < w.heap.size := by obtain ⟨wv, B, _⟩ := hR; exact B.lt
  rw [← en] at hn ⊢
  rw [← en] at ev
  subst ev
  clear row hd hby hR en
  go_enter Try.func18, Try.ntmps18
  go_wp2_with (at_make; refine wpList_make_full _ rfl _ _ 24 rfl w.heap.size 41 i0 (.agg #[.int .i64 0, .int .i64 0, .int .i64 0, .bool false, .bool false]) 5 Try.underlying24 hi hz0 hz1 .i64 .i64 (n : Int) (n : Int) n rfl rfl rfl rfl (by rw [hz2]; omega) (by unfold maxLen; omega) (Nat.le_refl _) ?_; intro w1 hown hg)
  have H1 : Hid _ := And.intro hown ((Below.refl w.heap.size w).grown hg (Nat.le_refl _) (by intro k hk; cases hk))
  clear hown hg
  go_loopg [13] n (fun q i wr => ∃ k : Nat, k ≤ n ∧ q = n - k ∧ i = .int .i64 (k : Int) ∧ ∃ zs, RunPJ g srv R w0 w wr n k zs)
  case atStart =>
    have e0 := HH.out.2.2.2.2.2
    refine ⟨0, by omega, by omega, rfl, _, by have := H1.out.1.1; simpa using this, H1.out.1, fun j hj => by omega, HH.out.2.2.2.1.below H1.out.2, HH.out.2.2.2.2.1.trans (H1.out.2.mono HH.out.2.2.2.2.1.size)⟩
  case round =>
    obtain ⟨k, hk, hq, rfl, zs, H2⟩ := hrel
    by_cases hlt : k < n
    · obtain ⟨b, off, cap, ev, hbl, U0, hc, hr⟩ := HH.out.1.at' (by have := HH.out.2.2.2.2.2; omega)
      simp only [Value.slice.injEq] at ev
      obtain ⟨rfl, em2, rfl⟩ := ev
      clear em2
      have e0 := HH.out.2.2.2.2.2
      have hck := hc k (by omega)
      obtain ⟨uk, euk⟩ : ∃ u, u = U0 k := ⟨_, rfl⟩
      have hrk := (hr k (by omega)).below H2.bw
      rw [← euk] at hck hrk
      have hgl : w.heap.size < wr.heap.size := (H2.ow.lt w.heap.size rfl).2
      obtain ⟨o, eo⟩ : ∃ o, o = R.getD k default := ⟨_, rfl⟩
      have hdk := HH.out.2.1 k (by omega)
      have hbk := HH.out.2.2.1 k
      rw [← eo] at hck hrk hdk hbk
      have c0 : wr.cell? ⟨b, off + k * 4, none⟩ = some (.int .i64 o.f0) := (H2.bw.cell (p := ⟨b, off + (k * 4 + 0), none⟩) hbl).trans (hck 0 (by omega))
      have c1 : wr.cell? ⟨b, off + k * 4 + 1, none⟩ = some (.int .i64 o.f1) := (H2.bw.cell (p := ⟨b, off + (k * 4 + 1), none⟩) hbl).trans (hck 1 (by omega))
      have c2 : wr.cell? ⟨b, off + k * 4 + 2, none⟩ = some (.int .i64 o.f2) := (H2.bw.cell (p := ⟨b, off + (k * 4 + 2), none⟩) hbl).trans (hck 2 (by omega))
      have c3 : wr.cell? ⟨b, off + k * 4 + 3, none⟩ = some (uk) := (H2.bw.cell (p := ⟨b, off + (k * 4 + 3), none⟩) hbl).trans (hck 3 (by omega))
      have BA : Below wr.heap.size wr (wr.alloc (.cells #[.int .i64 o.f0, .int .i64 o.f1, .int .i64 o.f2, uk] 43)) := (Below.refl _ _).alloc (Nat.le_refl _) _
      have hI := prunP_inv srv R HH.out.2.2.1 k
      have C := runP g w0.heap.size (prunP srv R k) o uk k _ (H2.rep.below BA) hg0 hI (by omega) (hrk.below BA) hdk (Nat.le_trans H2.bw.size BA.size) hbk
      obtain ⟨ua, uc, eu⟩ := hrk.form
      obtain ⟨un, eun⟩ : ∃ un, un = o.d.length := ⟨_, rfl⟩
      rw [← eun] at eu
      obtain ⟨S, eS⟩ : ∃ S, S = pstep (prunP srv R k) o := ⟨_, rfl⟩
      rw [← eS] at C
      have H4 : Hid _ := And.intro C (And.intro eo (And.intro BA eS))
      clear C hck hrk hc hr euk eo eun e0 hdk hbk BA hI eS
      obtain ⟨x0, x1, x2, x3⟩ := o
      subst eu
      dsimp only at *
      have H2H : Hid _ := And.intro H2 True.intro
      clear H2
      go_wp2_with fail
      refine H4.out.1.mono ?_
      rintro e w2 ⟨rfl, rp2, ch2⟩
      have chA := (ChS.of_below (S := fun k => k = g) (T := 80) (base := w0.heap.size) H4.out.2.2.1).trans ch2
      have ow2 := chA.ownsC H2H.out.1.ow (by decide) (fun t ht => by simp [Value.ownBlock] at ht; subst ht; omega)
      have h2z := ch2.size
      obtain ⟨q0, eq0⟩ : ∃ x, x = (pobs S).f0 := ⟨_, rfl⟩
      obtain ⟨q1, eq1⟩ : ∃ x, x = (pobs S).f1 := ⟨_, rfl⟩
      obtain ⟨q2, eq2⟩ : ∃ x, x = (pobs S).f2 := ⟨_, rfl⟩
      obtain ⟨q3, eq3⟩ : ∃ x, x = (pobs S).f3 := ⟨_, rfl⟩
      obtain ⟨q4, eq4⟩ : ∃ x, x = (pobs S).f4 := ⟨_, rfl⟩
      rw [← eq0, ← eq1, ← eq2, ← eq3, ← eq4]
      have d0 : k * 5 < n * 5 := by omega
      have s0 : w2.cell? ⟨w.heap.size, k * 5, none⟩ = zs[k * 5]? := ow2.cellAt (k * 5) d0
      obtain ⟨z0, hz0'⟩ : ∃ z, zs[k * 5]? = some z := ⟨zs[k * 5]'(by have := H2H.out.1.zl; omega), by simp [H2H.out.1.zl, d0]⟩
      rw [hz0'] at s0
      have f0 := ow2.frozenAt (k * 5)
      have d1 : k * 5 + 1 < n * 5 := by omega
      have s1 : w2.cell? ⟨w.heap.size, k * 5 + 1, none⟩ = zs[k * 5 + 1]? := ow2.cellAt (k * 5 + 1) d1
      obtain ⟨z1, hz1'⟩ : ∃ z, zs[k * 5 + 1]? = some z := ⟨zs[k * 5 + 1]'(by have := H2H.out.1.zl; omega), by simp [H2H.out.1.zl, d1]⟩
      rw [hz1'] at s1
      have f1 := ow2.frozenAt (k * 5 + 1)
      have d2 : k * 5 + 2 < n * 5 := by omega
      have s2 : w2.cell? ⟨w.heap.size, k * 5 + 2, none⟩ = zs[k * 5 + 2]? := ow2.cellAt (k * 5 + 2) d2
      obtain ⟨z2, hz2'⟩ : ∃ z, zs[k * 5 + 2]? = some z := ⟨zs[k * 5 + 2]'(by have := H2H.out.1.zl; omega), by simp [H2H.out.1.zl, d2]⟩
      rw [hz2'] at s2
      have f2 := ow2.frozenAt (k * 5 + 2)
      have d3 : k * 5 + 3 < n * 5 := by omega
      have s3 : w2.cell? ⟨w.heap.size, k * 5 + 3, none⟩ = zs[k * 5 + 3]? := ow2.cellAt (k * 5 + 3) d3
      obtain ⟨z3, hz3'⟩ : ∃ z, zs[k * 5 + 3]? = some z := ⟨zs[k * 5 + 3]'(by have := H2H.out.1.zl; omega), by simp [H2H.out.1.zl, d3]⟩
      rw [hz3'] at s3
      have f3 := ow2.frozenAt (k * 5 + 3)
      have d4 : k * 5 + 4 < n * 5 := by omega
      have s4 : w2.cell? ⟨w.heap.size, k * 5 + 4, none⟩ = zs[k * 5 + 4]? := ow2.cellAt (k * 5 + 4) d4
      obtain ⟨z4, hz4'⟩ : ∃ z, zs[k * 5 + 4]? = some z := ⟨zs[k * 5 + 4]'(by have := H2H.out.1.zl; omega), by simp [H2H.out.1.zl, d4]⟩
      rw [hz4'] at s4
      have f4 := ow2.frozenAt (k * 5 + 4)
      have H3 : Hid _ := And.intro ow2 (And.intro rp2 chA)
      have HQ : Hid _ := And.intro eq0 (And.intro eq1 (And.intro eq2 (And.intro eq3 eq4)))
      clear ow2 rp2 chA ch2 eq0 eq1 eq2 eq3 eq4 hz0' hz1' hz2' hz3' hz4'
      go_wp2
      go_roundg (n - (k + 1))
      case measure => omega
      case rel =>
        obtain ⟨eq0, eq1, eq2, eq3, eq4⟩ := HQ.out
        obtain ⟨zl, ow, cs, rep, bw⟩ := H2H.out.1
        have eS := H4.out.2.2.2
        rw [H4.out.2.1] at eS
        obtain ⟨cur, hbo⟩ := own_blk H3.out.1
        have hog : w.heap.size ≠ g := by omega
        refine ⟨k + 1, by omega, rfl, by go_num, (((((zs.set (k * 5) (.int .i64 q0)).set (k * 5 + 1) (.int .i64 q1)).set (k * 5 + 2) (.int .i64 q2)).set (k * 5 + 3) (.bool q3)).set (k * 5 + 4) (.bool q4)), by simp only [List.length_set]; exact zl, (((((H3.out.1.stored (k * 5) _).1.stored (k * 5 + 1) _).1.stored (k * 5 + 2) _).1.stored (k * 5 + 3) _).1.stored (k * 5 + 4) _).1, fun j hj f hf => ?_, by rw [show prunP srv R (k + 1) = S.1 by rw [eS]; rfl]; exact (((((H3.out.2.1.setO (hbo) hog (k * 5) (.int .i64 q0)).setO (bk_set (hbo) (k * 5) (.int .i64 q0)) hog (k * 5 + 1) (.int .i64 q1)).setO (bk_set (bk_set (hbo) (k * 5) (.int .i64 q0)) (k * 5 + 1) (.int .i64 q1)) hog (k * 5 + 2) (.int .i64 q2)).setO (bk_set (bk_set (bk_set (hbo) (k * 5) (.int .i64 q0)) (k * 5 + 1) (.int .i64 q1)) (k * 5 + 2) (.int .i64 q2)) hog (k * 5 + 3) (.bool q3)).setO (bk_set (bk_set (bk_set (bk_set (hbo) (k * 5) (.int .i64 q0)) (k * 5 + 1) (.int .i64 q1)) (k * 5 + 2) (.int .i64 q2)) (k * 5 + 3) (.bool q3)) hog (k * 5 + 4) (.bool q4)), ((((((H2H.out.1.bw.trans (H3.out.2.2.toBelow H2H.out.1.bw.size)).setCell (p := ⟨w.heap.size, k * 5, none⟩) hbel.size _).setCell (p := ⟨w.heap.size, k * 5 + 1, none⟩) hbel.size _).setCell (p := ⟨w.heap.size, k * 5 + 2, none⟩) hbel.size _).setCell (p := ⟨w.heap.size, k * 5 + 3, none⟩) hbel.size _).setCell (p := ⟨w.heap.size, k * 5 + 4, none⟩) hbel.size _)⟩
        by_cases hjk : j = k
        · subst hjk
          rw [show pobsAt srv R j = pobs S by rw [eS]; rfl]
          unfold SPathObs.c
          rw [← eq0, ← eq1, ← eq2, ← eq3, ← eq4]
          obtain rfl | rfl | rfl | rfl | rfl : f = 0 ∨ f = 1 ∨ f = 2 ∨ f = 3 ∨ f = 4 := by omega
          · rw [show j * 5 + 0 = j * 5 from rfl, List.getElem?_set_ne (by omega), List.getElem?_set_ne (by omega), List.getElem?_set_ne (by omega), List.getElem?_set_ne (by omega), List.getElem?_set_self (by first | omega | (simp only [List.length_set]; omega))]; rfl
          · rw [List.getElem?_set_ne (by omega), List.getElem?_set_ne (by omega), List.getElem?_set_ne (by omega), List.getElem?_set_self (by first | omega | (simp only [List.length_set]; omega))]; rfl
          · rw [List.getElem?_set_ne (by omega), List.getElem?_set_ne (by omega), List.getElem?_set_self (by first | omega | (simp only [List.length_set]; omega))]; rfl
          · rw [List.getElem?_set_ne (by omega), List.getElem?_set_self (by first | omega | (simp only [List.length_set]; omega))]; rfl
          · rw [List.getElem?_set_self (by first | omega | (simp only [List.length_set]; omega))]; rfl
        · have u := cs j (by omega) f hf
          rw [List.getElem?_set_ne (by omega), List.getElem?_set_ne (by omega), List.getElem?_set_ne (by omega), List.getElem?_set_ne (by omega), List.getElem?_set_ne (by omega)]; exact u
    · obtain rfl : k = n := by omega
      have H2H : Hid _ := And.intro H2 True.intro
      clear H2
      go_wp2
      go_ret
      obtain ⟨zl, ow, cs, rep, bw⟩ := H2H.out.1
      refine ⟨_, rfl, ⟨zs, by rw [List.length_map, List.length_map, List.length_range]; exact owns_mono ow hbel.size, fun j hj f hf => ?_⟩, bw⟩
      rw [List.length_map, List.length_map, List.length_range] at hj
      rw [cs j hj f hf, SPathObs.at _ j (by rw [List.length_map, List.length_range]; exact hj)]
      simp [List.getD, hj]
/-- The cells of new paths. -/
def pxZ (b : Bool) : List Value := .bool b :: .int .i64 0 :: ((List.replicate 256 [Value.int .i64 0, Value.int .i64 0, Value.bool false]).flatten ++ [.slice none 0 0])
theorem pxZ_built (b : Bool) : Try.prog.built 65 [(0, .bool b)] = some (pxZ b).toArray := by
  cases b
  · kernel_rfl
  · kernel_rfl
theorem rep_flat (n : Nat) (r : List Value) (K : Nat) (h : r.length = K ∧ ∀ v ∈ r, v.oneCell' = true) : FlatK K (List.replicate n r) := fun x hx => by
  rw [(List.mem_replicate.1 hx).2]; exact h
theorem pxZ_at (b : Bool) (k f : Nat) (hk : k < 256) (hf : f < 3) : (pxZ b)[2 + k * 3 + f]? = [Value.int .i64 0, Value.int .i64 0, Value.bool false][f]? := by
  have hF : FlatK 3 (List.replicate 256 [Value.int .i64 0, Value.int .i64 0, Value.bool false]) := rep_flat _ _ 3 ⟨rfl, by decide⟩
  have hl := flat_len hF
  rw [List.length_replicate] at hl
  unfold pxZ
  rw [show 2 + k * 3 + f = (k * 3 + f) + 1 + 1 by omega, List.getElem?_cons_succ, List.getElem?_cons_succ, List.getElem?_append_left (by omega), flat_get hF k f (by rw [List.length_replicate]; exact hk) hf, List.getD_eq_getElem?_getD, List.getElem?_replicate, if_pos hk]
  rfl
theorem pxZ_len (b : Bool) : (pxZ b).length = 771 := by
  have hF : FlatK 3 (List.replicate 256 [Value.int .i64 0, Value.int .i64 0, Value.bool false]) := rep_flat _ _ 3 ⟨rfl, by decide⟩
  have hl := flat_len hF
  rw [List.length_replicate] at hl
  unfold pxZ
  simp only [List.length_cons, List.length_append, hl, List.length_nil]
theorem pxZ_last (b : Bool) : (pxZ b)[770]? = some (.slice none 0 0) := by
  have hF : FlatK 3 (List.replicate 256 [Value.int .i64 0, Value.int .i64 0, Value.bool false]) := rep_flat _ _ 3 ⟨rfl, by decide⟩
  have hl := flat_len hF
  rw [List.length_replicate] at hl
  unfold pxZ
  rw [show 770 = 768 + 1 + 1 from rfl, List.getElem?_cons_succ, List.getElem?_cons_succ, List.getElem?_append_right (by omega), hl]
  rfl
theorem wpList_build1 {w : World} {ops : Array Oper} {rest : List Oper} {oo : Oper} {a : Act} {Q : Exit → Act → World → Prop} (hg : oo.guard = none) (t : TypeId) (x : Operand) (ho : oo.op = .build t #[(0, x)]) (v : Value) (hx : a.eval x = v) (Z : Array Value)
    (hb : Try.prog.built t [(0, v)] = some Z) (h : wpList Try.prog ops Q rest (a.put oo.dst (.agg Z)) w) : wpList Try.prog ops Q (oo :: rest) a w := by
  refine wpList_plain hg fun K hK => ?_
  unfold Oper.wp execOp
  have hr := run_build w t #[(0, v)] Z hb
  simp only [ho, Sem.run_bind, List.map_toArray, List.map_cons, List.map_nil, hx, hr, Result.andThen_ok]
  exact hK _ _ h
set_option maxRecDepth 20000 in
set_option maxHeartbeats 2000000 in
theorem newP (srv : Bool) (base : Nat) (w : World) (hb : base ≤ w.heap.size) :
    Calls Try.prog 19 #[.bool srv] w fun e w' => e = .returned (.pointer (some ⟨w.heap.size, 0, none⟩)) ∧ PRep w' w.heap.size base (px0 srv) ∧ Below w.heap.size w w' := by
  have hrun := pxZ_built srv
  obtain ⟨Z, eZ⟩ : ∃ Z : Array Value, Z = (pxZ srv).toArray := ⟨_, rfl⟩
  have z0 : Z[0]? = some (.bool srv) := by rw [eZ]; rfl
  have z1 : Z[1]? = some (.int .i64 0) := by rw [eZ]; rfl
  have zk : ∀ k f, k < 256 → f < 3 → Z[2 + k * 3 + f]? = [Value.int .i64 0, Value.int .i64 0, Value.bool false][f]? := fun k f hk hf => by rw [eZ]; simpa using pxZ_at srv k f hk hf
  have z4 : Z[4]? = some (.bool false) := zk 0 2 (by omega) (by omega)
  have zl : Z.size = 771 := by rw [eZ]; simpa using pxZ_len srv
  have zw : Z[770]? = some (.slice none 0 0) := by rw [eZ]; simpa using pxZ_last srv
  rw [← eZ] at hrun
  clear eZ
  have HZ : Hid _ := And.intro z0 (And.intro z1 (And.intro zk (And.intro zl zw)))
  have HR : Hid _ := hrun
  clear z0 z1 zk zl zw hrun
  go_enter Try.func19, Try.ntmps19
  go_wp2_with (refine wpList_build1 rfl 65 (.tmp 4) rfl (.bool srv) rfl Z HR.out ?_)
  go_ret
  obtain ⟨z0, z1, zk, zl, zw⟩ := HZ.out
  refine ⟨rfl, ⟨.slice none 0 0, ⟨_, heap_alloc_new _ _, by rw [Array.size_setIfInBounds]; exact zl, ?_, ?_, fun k hk => ⟨?_, ?_, ?_⟩, ?_⟩, OffR.nil _ _ _ _⟩, (Below.refl _ _).alloc (Nat.le_refl _) _⟩
  · rw [arr_set, if_neg (by omega)]; exact z0
  · rw [arr_set, if_neg (by omega)]; exact z1
  · rw [arr_set, if_neg (by omega)]; exact zk k 0 hk (by omega)
  · rw [arr_set, if_neg (by omega)]; exact zk k 1 hk (by omega)
  · show _ = some (Value.bool (updF (fun _ => false) 0 (!srv) k))
    by_cases e : k = 0
    · subst e; rw [arr_set, if_pos ⟨by omega, by omega⟩, updF_at]
    · rw [arr_set, if_neg (by omega), updF_ne _ _ _ _ e]; exact zk k 2 hk (by omega)
  · rw [arr_set, if_neg (by omega)]; exact zw
set_option maxRecDepth 20000 in
set_option maxHeartbeats 2000000 in
theorem implPR (srv : Bool) (v : Value) (R : List SPathOp) (w : World) (row : BRow 4 SPathOp.c SPathOp.d w v R)
    (hd : ∀ j, j < R.length → (R.getD j default).d.length ≤ 1048576) (hby : ∀ j, ∀ x ∈ (R.getD j default).f3, 0 ≤ x ∧ x < 256) (hl : R.length ≤ 140737488355328) :
    Calls Try.prog 7 #[.bool srv, v] w fun e w' => ∃ r, e = .returned (.tuple #[r, .int .i64 (prC R)]) ∧ GOwns 41 5 w' w.heap.size r (SPathObs.L (prY srv R)) ∧ Below w.heap.size w w' := by
  obtain ⟨ao, cp, ev⟩ := row.form
  by_cases a1 : 300 < R.length
  · have e1 : prC R = 4 := by unfold prC; rw [if_pos a1]
    have e2 : prY srv R = [] := by unfold prY; rw [if_pos a1]
    rw [e1, e2, ev]
    have a1' : (300 : Int) < (R.length : Int) := by omega
    generalize R.length = n at *
    clear row hd hby
    go_enter Try.func7, Try.ntmps7
    go_wp2
    go_ret2
    exact ⟨_, rfl, ⟨[], World.ownsRow_nil _ _ _ _, fun j hj => absurd hj (by simp)⟩, Below.refl _ _⟩
  have e1 : prC R = 0 := by unfold prC; rw [if_neg a1]
  have e2 : prY srv R = (List.range R.length).map (pobsAt srv R) := by unfold prY; rw [if_neg a1]
  rw [e1, e2]
  have C := newP srv w.heap.size w (Nat.le_refl _)
  have C2 : ∀ w1 : World, PRep w1 w.heap.size w.heap.size (px0 srv) → Below w.heap.size w w1 → Calls Try.prog 18 #[v, .func (.func 20) #[.pointer (some ⟨w.heap.size, 0, none⟩)] #[]] w1 fun e w' => ∃ r, e = .returned r ∧ GOwns 41 5 w' w.heap.size r (SPathObs.L ((List.range R.length).map (pobsAt srv R))) ∧ Below w.heap.size w w' := fun w1 hr hb =>
    runAllP w.heap.size srv v R w w1 hb (Nat.le_refl _) row (by omega) hd hby hr
  have a1' : ¬ (300 : Int) < (R.length : Int) := by omega
  have HH : Hid _ := And.intro C C2
  rw [ev] at HH ⊢
  generalize (List.range R.length).map (pobsAt srv R) = Y at *
  generalize R.length = n at *
  clear row hd hby C C2 e1 e2 ev hl
  go_enter Try.func7, Try.ntmps7
  go_wp2_with (first | (go_at_call 19; refine HH.out.1.mono ?_; rintro e w1 ⟨rfl, r1, b1⟩) | (go_at_call 18; refine (HH.out.2 _ r1 b1).mono ?_; rintro e w2 ⟨r, rfl, o2, b2⟩))
  go_ret2
  exact ⟨_, rfl, o2, b2⟩
end Go.Proofs.Ytjikdecfampbiaa
