import Derived.Test.YtgifbpongpbjaaaDoorRiC
import Derived.Deep.LoopGhost
namespace Go.Proofs.YtgifbpongpbjaaaDoor
open Go.RowKit
set_option linter.unusedVariables false

theorem runR (g c win i : Nat) (m : MS) (o : SRecvOp) (u : Value) (w : World) (hE : Env w g c win i m) (hR : Rep w g c win m) (hrow : Row w .u8 u o.f3) (hl : o.f3.length ≤ 140737488355328) (ho : o.f1 ≤ 9223372036854775807) (hap : 0 < o.f3.length → ∀ b of l cp, u = .slice (some ⟨b, of, none⟩) l cp → b ≠ g ∧ b ≠ c) :
    Calls Tryd.prog 10 #[.pointer (some ⟨g, 0, none⟩), .agg #[.int .i64 o.f0, .int .i64 o.f1, .int .i64 o.f2, u, .bool o.f4]] w fun e w' => ∃ r, e = .returned (.agg #[.int .i64 (mstep win m o).2.f0, .int .i64 (mstep win m o).2.f1, .int .i64 (mstep win m o).2.f2, r, .bool (mstep win m o).2.f4]) ∧
      w'.ownsRow w.heap.size 5 1 r (mstep win m o).2.f3.length ((mstep win m o).2.f3.map (Value.int .u8)) ∧ Rep w' g c win (mstep win m o).1 ∧ Chg (K2 g c) w w' := by
  obtain ⟨k, a, b, D, fb⟩ := o
  dsimp only at *
  unfold mstep
  dsimp only
  by_cases h1 : k = 1
  · subst h1
    rw [if_pos rfl]
    refine (run_data g c win i m a b u fb w hE hR D hrow hl ho hap).mono ?_
    rintro e w' ⟨rfl, r1, ch⟩
    exact ⟨_, rfl, World.ownsRow_nil _ _ _ _, r1, ch⟩
  rw [if_neg h1]
  by_cases h2 : k = 2
  · subst h2
    rw [if_pos rfl]
    refine (run_reset g c win i m a b u fb w hE hR).mono ?_
    rintro e w' ⟨rfl, r1, ch⟩
    exact ⟨_, rfl, World.ownsRow_nil _ _ _ _, r1, ch⟩
  rw [if_neg h2]
  by_cases h3 : k = 3
  · subst h3
    rw [if_pos rfl]
    exact run_read g c win i m a b u fb w hE hR
  · rw [if_neg h3]
    refine (run_other g c win i m a b u fb w hE hR k (by simpa using h1) (by simpa using h2) (by simpa using h3)).mono ?_
    rintro e w' ⟨rfl, r1, ch⟩
    exact ⟨_, rfl, World.ownsRow_nil _ _ _ _, r1, ch⟩
theorem Chg.ownsG {S : Nat → Prop} {w w' : World} {base e s n : Nat} {v : Value} {xs : List Value} (h : Chg S w w') (ho : w.ownsRow base e s v n xs) (hne : ∀ k, v.ownBlock = some k → ¬ S k) : w'.ownsRow base e s v n xs := by
  obtain ⟨hl, h2⟩ := ho
  refine ⟨hl, ?_⟩
  rcases h2 with h2 | ⟨g', cap, cur, rfl, hg, hh, r⟩
  · exact Or.inl h2
  · exact Or.inr ⟨g', cap, cur, rfl, hg, (h.block g' (Array.getElem?_eq_some_iff.1 hh).1 (hne g' rfl)).trans hh, r⟩
theorem Chg.toBelow {S : Nat → Prop} {w w' : World} {B : Nat} (h : Chg S w w') (hB : B ≤ w.heap.size) (hs : ∀ k, k < B → ¬ S k) : Below B w w' := ⟨h.os, h.tape, h.output, h.size, fun k hk => h.block k (by omega) (hs k hk)⟩
theorem Env.setE {w : World} {g c win i : Nat} {m : MS} (h : Env w g c win i m) (k o : Nat) (u : Value) (hk : 0 < k) : Env (w.setCell ⟨k, o, none⟩ u) g c win i m :=
  ⟨h.tab.chg (S := (· = k)) ((chg_of_eq w).set' k o u rfl) h.t0 (fun e => by have : 0 = k := e; omega), by have := h.t0; simpa [World.setCell] using this, h.hne, h.hgc, h.w1, h.w2, h.i4, h.inv⟩
/-- Behind k operations. -/
structure RunJ (g c win : Nat) (R : List SRecvOp) (w0 w wr : World) (n k : Nat) (zs : List Value) (U : Nat → Value) : Prop where
  zl : zs.length = n * 5
  ow : wr.ownsRow w.heap.size 33 5 (.slice (some ⟨w.heap.size, 0, none⟩) n n) n zs
  cs : ∀ j, j < k → ∀ f, f < 5 → zs[j * 5 + f]? = ((mstep win (mrun win R j).1 (R.getD j default)).2.c (U j))[f]?
  inn : ∀ j, j < k → wr.ownsRow (w.heap.size + 1) 5 1 (U j) (mstep win (mrun win R j).1 (R.getD j default)).2.d.length ((mstep win (mrun win R j).1 (R.getD j default)).2.d.map (Value.int .u8))
  ap : ∀ (i j : Nat), i < j → j < k → ∀ t, (U j).ownBlock = some t → some t ≠ (U i).ownBlock
  rep : Rep wr g c win (mrun win R k).1
  env : Env wr g c win k (mrun win R k).1
  bw : Below w0.heap.size w0 wr
def RunI (g c win : Nat) (R : List SRecvOp) (w0 w wr : World) (n k : Nat) : Prop := ∃ zs U, RunJ g c win R w0 w wr n k zs U
set_option maxRecDepth 20000 in
set_option maxHeartbeats 4000000 in
theorem runAllR (g c win : Nat) (v : Value) (R : List SRecvOp) (w0 w : World) (hbel : Below w0.heap.size w0 w) (hg0 : w0.heap.size ≤ g) (hc0 : w0.heap.size ≤ c) (row : BRow 5 SRecvOp.c SRecvOp.d w0 v R) (hn : R.length ≤ 400)
    (hd : ∀ j, j < R.length → (R.getD j default).d.length ≤ 140737488355328) (hof : ∀ j, j < R.length → (R.getD j default).f1 ≤ 9223372036854775807) (hE : Env w g c win 0 (mrun win R 0).1) (hR : Rep w g c win (mrun win R 0).1) (h0 : 0 < w0.heap.size) :
    Calls Tryd.prog 8 #[v, .func (.func 10) #[.pointer (some ⟨g, 0, none⟩)] #[]] w fun e w' => ∃ r, e = .returned r ∧ BOwns 33 5 SRecvObs.c SRecvObs.d w' w0.heap.size r (mrun win R R.length).2 ∧ Below w0.heap.size w0 w' := by
  obtain ⟨ao, cp, ev⟩ := row.form
  obtain ⟨i0, hi, hz0, hz1, hz2⟩ := info_parts infoRecvObs
  obtain ⟨n, en⟩ : ∃ n, n = R.length := ⟨_, rfl⟩
  have HH : Hid _ := And.intro row (And.intro hd (And.intro hof (And.intro hE (And.intro hR (And.intro hbel en)))))
  have hsB : ∀ k, k < w0.heap.size → ¬ K2 g c k := fun k hk e => by rcases e with e | e <;> omega
  have hglt := hR.lt
  rw [← en] at hn ⊢
  rw [← en] at ev
  subst ev
  clear row hd hof hE hR en
  go_enter Tryd.func8, Tryd.ntmps8
  go_wp2_with (at_make; refine wpList_make_full _ rfl _ _ 29 rfl w.heap.size 33 i0 (.agg #[.int .i64 0, .int .i64 0, .int .i64 0, .slice none 0 0, .bool false]) 5 Tryd.underlying29 hi hz0 hz1 .i64 .i64 (n : Int) (n : Int) n rfl rfl rfl rfl (by rw [hz2]; omega) (by unfold maxLen; omega) (Nat.le_refl _) ?_; intro w1 hown hg)
  have H1 : Hid _ := And.intro hown ((Below.refl w.heap.size w).grown hg (Nat.le_refl _) (by intro k hk; cases hk))
  clear hown hg
  go_loopg [13] n (fun q i wr => ∃ k : Nat, k ≤ n ∧ q = n - k ∧ i = .int .i64 (k : Int) ∧ RunI g c win R w0 w wr n k)
  case atStart =>
    have e0 := HH.out.2.2.2.2.2.2
    refine ⟨0, by omega, by omega, rfl, _, fun _ => .slice none 0 0, by have := H1.out.1.1; simpa using this, H1.out.1, fun j hj => by omega, fun j hj => by omega, fun i j _ hj => by omega, ?_, ?_, HH.out.2.2.2.2.2.1.trans (H1.out.2.mono HH.out.2.2.2.2.2.1.size)⟩
    · exact HH.out.2.2.2.2.1.below H1.out.2
    · exact HH.out.2.2.2.1.below H1.out.2
  case round =>
    obtain ⟨k, hk, hq, rfl, zs, U, H2⟩ := hrel
    by_cases hlt : k < n
    · obtain ⟨b, off, cap, ev, hbl, U0, hc, hr⟩ := HH.out.1.at' (by have := HH.out.2.2.2.2.2.2; omega)
      simp only [Value.slice.injEq] at ev
      obtain ⟨rfl, em2, rfl⟩ := ev
      clear em2
      have e0 := HH.out.2.2.2.2.2.2
      have hck := hc k (by omega)
      obtain ⟨uk, euk⟩ : ∃ u, u = U0 k := ⟨_, rfl⟩
      have hrk := (hr k (by omega)).below H2.bw
      rw [← euk] at hck hrk
      have hgl : w.heap.size < wr.heap.size := (H2.ow.lt w.heap.size rfl).2
      obtain ⟨o, eo⟩ : ∃ o, o = R.getD k default := ⟨_, rfl⟩
      have hdk := HH.out.2.1 k (by omega)
      have hfk := HH.out.2.2.1 k (by omega)
      rw [← eo] at hck hrk hdk hfk
      have c0 : wr.cell? ⟨b, off + k * 5, none⟩ = some (.int .i64 o.f0) := (H2.bw.cell (p := ⟨b, off + (k * 5 + 0), none⟩) hbl).trans (hck 0 (by omega))
      have c1 : wr.cell? ⟨b, off + k * 5 + 1, none⟩ = some (.int .i64 o.f1) := (H2.bw.cell (p := ⟨b, off + (k * 5 + 1), none⟩) hbl).trans (hck 1 (by omega))
      have c2 : wr.cell? ⟨b, off + k * 5 + 2, none⟩ = some (.int .i64 o.f2) := (H2.bw.cell (p := ⟨b, off + (k * 5 + 2), none⟩) hbl).trans (hck 2 (by omega))
      have c3 : wr.cell? ⟨b, off + k * 5 + 3, none⟩ = some (uk) := (H2.bw.cell (p := ⟨b, off + (k * 5 + 3), none⟩) hbl).trans (hck 3 (by omega))
      have c4 : wr.cell? ⟨b, off + k * 5 + 4, none⟩ = some (.bool o.f4) := (H2.bw.cell (p := ⟨b, off + (k * 5 + 4), none⟩) hbl).trans (hck 4 (by omega))
      have BA : Below wr.heap.size wr (wr.alloc (.cells #[.int .i64 o.f0, .int .i64 o.f1, .int .i64 o.f2, uk, .bool o.f4] 28)) := (Below.refl _ _).alloc (Nat.le_refl _) _
      have C := runR g c win k (mrun win R k).1 o uk _ (H2.env.below BA) (H2.rep.below BA) (hrk.below BA) hdk hfk (fun h0 b' of l cp' he => by
        have hlt0 := hr k (by omega)
        rw [← euk, ← eo] at hlt0
        obtain ⟨b2, o2, c2, e2, hb2, _⟩ := hlt0.at h0
        rw [e2] at he
        simp only [Value.slice.injEq, Option.some.injEq, Addr.mk.injEq] at he
        have := he.1.1
        omega)
      obtain ⟨ua, uc, eu⟩ := hrk.form
      obtain ⟨un, eun⟩ : ∃ un, un = o.d.length := ⟨_, rfl⟩
      rw [← eun] at eu
      have H4 : Hid _ := And.intro C (And.intro eo BA)
      clear C hck hrk hc hr euk eo eun e0
      obtain ⟨x0, x1, x2, x3, x4⟩ := o
      subst eu
      dsimp only at *
      have H2H : Hid _ := And.intro H2 True.intro
      clear H2
      go_wp2_with fail
      refine H4.out.1.mono ?_
      rintro e w2 ⟨r, rfl, or2, rp2, ch2⟩
      obtain ⟨S, eS⟩ : ∃ S, S = mstep win (mrun win R k).1 ⟨x0, x1, x2, x3, x4⟩ := ⟨_, rfl⟩
      rw [← eS] at or2 rp2
      rw [← eS]
      have hL : w.heap.size < wr.heap.size + 1 := by omega
      have chA : Chg (K2 g c) wr w2 := (Chg.of_below H4.out.2.2).trans ch2
      have ow2 := chA.ownsG H2H.out.1.ow (fun t ht => by simp [Value.ownBlock] at ht; subst ht; intro e; rcases e with e | e <;> omega)
      have h2z := ch2.size
      obtain ⟨aor, cpr, hrr⟩ := (row_of_owns or2).form
      obtain ⟨rn, ern⟩ : ∃ rn, rn = S.2.f3.length := ⟨_, rfl⟩
      rw [← ern] at hrr
      obtain ⟨q0, eq0⟩ : ∃ x, x = S.2.f0 := ⟨_, rfl⟩
      obtain ⟨q1, eq1⟩ : ∃ x, x = S.2.f1 := ⟨_, rfl⟩
      obtain ⟨q2, eq2⟩ : ∃ x, x = S.2.f2 := ⟨_, rfl⟩
      obtain ⟨q4, eq4⟩ : ∃ x, x = S.2.f4 := ⟨_, rfl⟩
      rw [← eq0, ← eq1, ← eq2, ← eq4]
      have d0 : k * 5 < n * 5 := by omega
      have s0 : w2.cell? ⟨w.heap.size, k * 5, none⟩ = zs[k * 5]? := ow2.cellAt (k * 5) d0
      obtain ⟨z0, hz0'⟩ : ∃ z, zs[k * 5]? = some z := ⟨zs[k * 5]'(by have := H2H.out.1.zl; omega), by simp [H2H.out.1.zl, d0]⟩
      rw [hz0'] at s0
      have f0 := ow2.frozenAt (k * 5)
      have d1 : k * 5 + 1 < n * 5 := by omega
      have s1 : w2.cell? ⟨w.heap.size, k * 5 + 1, none⟩ = zs[k * 5 + 1]? := ow2.cellAt (k * 5 + 1) d1
      obtain ⟨z1, hz1'⟩ : ∃ z, zs[k * 5 + 1]? = some z := ⟨zs[k * 5 + 1]'(by have := H2H.out.1.zl; omega), by simp [H2H.out.1.zl, d1]⟩
      rw [hz1'] at s1
      have f1 := ow2.frozenAt (k * 5 + 1)
      have d2 : k * 5 + 2 < n * 5 := by omega
      have s2 : w2.cell? ⟨w.heap.size, k * 5 + 2, none⟩ = zs[k * 5 + 2]? := ow2.cellAt (k * 5 + 2) d2
      obtain ⟨z2, hz2'⟩ : ∃ z, zs[k * 5 + 2]? = some z := ⟨zs[k * 5 + 2]'(by have := H2H.out.1.zl; omega), by simp [H2H.out.1.zl, d2]⟩
      rw [hz2'] at s2
      have f2 := ow2.frozenAt (k * 5 + 2)
      have d3 : k * 5 + 3 < n * 5 := by omega
      have s3 : w2.cell? ⟨w.heap.size, k * 5 + 3, none⟩ = zs[k * 5 + 3]? := ow2.cellAt (k * 5 + 3) d3
      obtain ⟨z3, hz3'⟩ : ∃ z, zs[k * 5 + 3]? = some z := ⟨zs[k * 5 + 3]'(by have := H2H.out.1.zl; omega), by simp [H2H.out.1.zl, d3]⟩
      rw [hz3'] at s3
      have f3 := ow2.frozenAt (k * 5 + 3)
      have d4 : k * 5 + 4 < n * 5 := by omega
      have s4 : w2.cell? ⟨w.heap.size, k * 5 + 4, none⟩ = zs[k * 5 + 4]? := ow2.cellAt (k * 5 + 4) d4
      obtain ⟨z4, hz4'⟩ : ∃ z, zs[k * 5 + 4]? = some z := ⟨zs[k * 5 + 4]'(by have := H2H.out.1.zl; omega), by simp [H2H.out.1.zl, d4]⟩
      rw [hz4'] at s4
      have f4 := ow2.frozenAt (k * 5 + 4)
      have H3 : Hid _ := And.intro ow2 (And.intro or2 (And.intro rp2 chA))
      have HQ : Hid _ := And.intro eq0 (And.intro eq1 (And.intro eq2 (And.intro eq4 (And.intro eS (And.intro hrr ern)))))
      clear ow2 or2 rp2 chA ch2 eq0 eq1 eq2 eq4 eS ern hz0' hz1' hz2' hz3' hz4'
      subst hrr
      go_wp2
      go_roundg (n - (k + 1))
      case measure => omega
      case rel =>
        obtain ⟨eq0, eq1, eq2, eq4, eS, -, ern⟩ := HQ.out
        obtain ⟨zl, ow, cs, inn, ap, rep, env, bw⟩ := H2H.out.1
        have eo := H4.out.2.1
        rw [eo] at eS
        obtain ⟨r, er⟩ : ∃ r : Value, r = .slice aor rn cpr := ⟨_, rfl⟩
        have e1 : (mrun win R (k + 1)).1 = S.1 := by rw [eS]; rfl
        have hor : w2.ownsRow (w.heap.size + 1) 5 1 r S.2.f3.length (S.2.f3.map (Value.int .u8)) := by rw [er]; exact owns_mono H3.out.2.1 (by simp; omega)
        have hlow : ∀ j, j < k → w2.ownsRow (w.heap.size + 1) 5 1 (U j) (mstep win (mrun win R j).1 (R.getD j default)).2.d.length ((mstep win (mrun win R j).1 (R.getD j default)).2.d.map (Value.int .u8)) := fun j hj => H3.out.2.2.2.ownsG (inn j hj) (fun t ht e => by have := ((inn j hj).lt t ht).1; rcases e with e | e <;> omega)
        rw [← er]
        refine ⟨k + 1, by omega, rfl, by go_num, (((((zs.set (k * 5) (.int .i64 q0)).set (k * 5 + 1) (.int .i64 q1)).set (k * 5 + 2) (.int .i64 q2)).set (k * 5 + 3) r).set (k * 5 + 4) (.bool q4)), fun j => if j = k then r else U j, ⟨by simp only [List.length_set]; exact zl, (((((H3.out.1.stored (k * 5) _).1.stored (k * 5 + 1) _).1.stored (k * 5 + 2) _).1.stored (k * 5 + 3) _).1.stored (k * 5 + 4) _).1, fun j hj f hf => ?_, fun j hj => ?_, fun i j hij hj t ht => ?_, ?_, ?_, ((((((H2H.out.1.bw.trans (H3.out.2.2.2.toBelow H2H.out.1.bw.size hsB)).setCell (p := ⟨w.heap.size, k * 5, none⟩) hbel.size _).setCell (p := ⟨w.heap.size, k * 5 + 1, none⟩) hbel.size _).setCell (p := ⟨w.heap.size, k * 5 + 2, none⟩) hbel.size _).setCell (p := ⟨w.heap.size, k * 5 + 3, none⟩) hbel.size _).setCell (p := ⟨w.heap.size, k * 5 + 4, none⟩) hbel.size _)⟩⟩
        · by_cases hjk : j = k
          · subst hjk
            rw [if_pos rfl, ← eS]
            unfold SRecvObs.c
            rw [← eq0, ← eq1, ← eq2, ← eq4]
            obtain rfl | rfl | rfl | rfl | rfl : f = 0 ∨ f = 1 ∨ f = 2 ∨ f = 3 ∨ f = 4 := by omega
            · rw [show j * 5 + 0 = j * 5 from rfl, List.getElem?_set_ne (by omega), List.getElem?_set_ne (by omega), List.getElem?_set_ne (by omega), List.getElem?_set_ne (by omega), List.getElem?_set_self (by first | omega | (simp only [List.length_set]; omega))]; rfl
            · rw [List.getElem?_set_ne (by omega), List.getElem?_set_ne (by omega), List.getElem?_set_ne (by omega), List.getElem?_set_self (by first | omega | (simp only [List.length_set]; omega))]; rfl
            · rw [List.getElem?_set_ne (by omega), List.getElem?_set_ne (by omega), List.getElem?_set_self (by first | omega | (simp only [List.length_set]; omega))]; rfl
            · rw [List.getElem?_set_ne (by omega), List.getElem?_set_self (by first | omega | (simp only [List.length_set]; omega))]; rfl
            · rw [List.getElem?_set_self (by first | omega | (simp only [List.length_set]; omega))]; rfl
          · have u := cs j (by omega) f hf
            rw [if_neg hjk, List.getElem?_set_ne (by omega), List.getElem?_set_ne (by omega), List.getElem?_set_ne (by omega), List.getElem?_set_ne (by omega), List.getElem?_set_ne (by omega)]; exact u
        · by_cases hjk : j = k
          · rw [if_pos hjk, hjk, ← eS]
            have hx := hor
            exact owns_set8 (i := k * 5 + 4) (u := (.bool q4)) (owns_set8 (i := k * 5 + 3) (u := r) (owns_set8 (i := k * 5 + 2) (u := (.int .i64 q2)) (owns_set8 (i := k * 5 + 1) (u := (.int .i64 q1)) (owns_set8 (i := k * 5) (u := (.int .i64 q0)) (hx) (g := w.heap.size) (by omega)) (g := w.heap.size) (by omega)) (g := w.heap.size) (by omega)) (g := w.heap.size) (by omega)) (g := w.heap.size) (by omega)
          · rw [if_neg hjk]
            have hx := hlow j (by omega)
            exact owns_set8 (i := k * 5 + 4) (u := (.bool q4)) (owns_set8 (i := k * 5 + 3) (u := r) (owns_set8 (i := k * 5 + 2) (u := (.int .i64 q2)) (owns_set8 (i := k * 5 + 1) (u := (.int .i64 q1)) (owns_set8 (i := k * 5) (u := (.int .i64 q0)) (hx) (g := w.heap.size) (by omega)) (g := w.heap.size) (by omega)) (g := w.heap.size) (by omega)) (g := w.heap.size) (by omega)) (g := w.heap.size) (by omega)
        · by_cases hjk : j = k
          · subst hjk
            rw [if_pos rfl] at ht
            rw [if_neg (by omega)]
            have hx := inn i hij
            intro e
            have a1 := (hx.lt t e.symm).2
            have a2 := (H3.out.2.1.lt t (by rw [← er]; exact ht)).1
            simp at a2
            omega
          · rw [if_neg hjk] at ht
            rw [if_neg (by omega)]
            exact ap i j hij (by omega) t ht
        · rw [e1]
          exact (((((H3.out.2.2.1).setN w.heap.size (k * 5) (.int .i64 q0) (by omega)).setN w.heap.size (k * 5 + 1) (.int .i64 q1) (by omega)).setN w.heap.size (k * 5 + 2) (.int .i64 q2) (by omega)).setN w.heap.size (k * 5 + 3) r (by omega)).setN w.heap.size (k * 5 + 4) (.bool q4) (by omega)
        · rw [e1]
          have hmi := mstep_inv env.inv env.w1 env.w2 env.i4 (R.getD k default)
          rw [← eS] at hmi
          have hcg : Chg (K2 g c) w w2 → True := fun _ => trivial
          have en := env.after H3.out.2.2.2 (by omega) hmi
          exact ((((en.setE w.heap.size (k * 5) (.int .i64 q0) (by omega)).setE w.heap.size (k * 5 + 1) (.int .i64 q1) (by omega)).setE w.heap.size (k * 5 + 2) (.int .i64 q2) (by omega)).setE w.heap.size (k * 5 + 3) r (by omega)).setE w.heap.size (k * 5 + 4) (.bool q4) (by omega)
    · obtain rfl : k = n := by omega
      have H2H : Hid _ := And.intro H2 True.intro
      clear H2
      go_wp2
      go_ret
      have e0 := HH.out.2.2.2.2.2.2
      obtain ⟨zl, ow, cs, inn, ap, rep, env, bw⟩ := H2H.out.1
      refine ⟨_, rfl, ⟨U, ⟨zs, by rw [zl_length, mrun_length]; exact owns_mono ow hbel.size, fun j hj f hf => ?_⟩, fun j hj => ?_, fun i j hij hj => ap i j hij (by rw [mrun_length] at hj; exact hj)⟩, bw⟩
      · rw [zl_length, mrun_length] at hj
        rw [zl_at _ _ _ _ (by rw [mrun_length]; exact hj), mrun_at win R j k hj]
        exact cs j hj f hf
      · rw [mrun_length] at hj
        rw [mrun_at win R j k hj]
        exact owns_mono (inn j hj) (by have := hbel.size; omega)
end Go.Proofs.YtgifbpongpbjaaaDoor
