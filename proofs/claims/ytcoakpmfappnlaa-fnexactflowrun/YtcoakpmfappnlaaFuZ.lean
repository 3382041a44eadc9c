import Derived.Test.YtcoakpmfappnlaaFlNest
namespace Go.Proofs.Ytcoakpmfappnlaa
open Go.RowKit
set_option linter.unusedVariables false
set_option linter.unusedSimpArgs false

/-- Behind k operations. -/
structure RunJ (g : Nat) (F : FS) (R : List SFlowOp) (w0 w wr : World) (n k : Nat) (zs : List Value) (U : Nat → Value) : Prop where
  zl : zs.length = n * 4
  ow : wr.ownsRow w.heap.size 43 4 (.slice (some ⟨w.heap.size, 0, none⟩) n n) n zs
  cs : ∀ j, j < k → ∀ f, f < 4 → zs[j * 4 + f]? = ((fobsAt F R j).c (U j))[f]?
  inn : ∀ j, j < k → GOwns 87 8 wr (w.heap.size + 1) (U j) ((fobsAt F R j).fr.map frC)
  ap : ∀ (i j : Nat), i < j → j < k → ∀ t, (U j).ownBlock = some t → some t ≠ (U i).ownBlock
  rep : FRep wr g w0.heap.size F (frunP F R k)
  bw : Below w0.heap.size w0 wr
def RunK (g : Nat) (F : FS) (R : List SFlowOp) (w0 w wr : World) (n k : Nat) : Prop := ∃ zs U, RunJ g F R w0 w wr n k zs U
theorem infoFO : (Try.prog.info? 43).map (fun i => (i.zero, i.size, i.bytes)) = some (some (.agg #[.int .i64 0, .int .i64 0, .int .i64 0, .slice none 0 0]), 4, 48) := by kernel_rfl
theorem GOwns.bounds {T : TypeId} {K : Nat} {w : World} {base : Nat} {v : Value} {L : List (List Value)} (h : GOwns T K w base v L) : ∀ k, v.ownBlock = some k → base ≤ k ∧ k < w.heap.size := by
  obtain ⟨zs, ho, _⟩ := h
  exact fun j hj => ho.lt j hj
theorem FRep.setN' {w : World} {g base : Nat} {F : FS} {m : FX} (h : FRep w g base F m) {k : Nat} {c : Array Value} {fr : Nat × Nat} (hk : w.heap[k]? = some (.cells c 43 fr)) (i : Nat) (v : Value) : FRep (w.setCell ⟨k, i, none⟩ v) g base F m := by
  obtain ⟨wb, ms, ml, pb, P⟩ := h
  exact ⟨wb, ms, ml, pb, P.setO hk i v⟩
theorem own_blk4 {w : World} {base b n cap : Nat} {zs : List Value} (h : w.ownsRow base 43 4 (.slice (some ⟨b, 0, none⟩) n cap) n zs) : ∃ cur, w.heap[b]? = some (.cells cur 43 (0, 0)) := by
  rcases h.2 with ⟨e, _⟩ | ⟨g, cap', cur, e, _, hg, _⟩
  · cases e
  · simp only [Value.slice.injEq, Option.some.injEq, Addr.mk.injEq] at e
    obtain ⟨⟨rfl, -⟩, -⟩ := e
    exact ⟨cur, hg⟩
set_option maxRecDepth 20000 in
set_option maxHeartbeats 4000000 in
theorem runAllF (g : Nat) (F : FS) (hF : fsOK F = true) (v : Value) (R : List SFlowOp) (w0 w : World) (hbel : Below w0.heap.size w0 w) (row : GRow 4 w0 v (SFlowOp.L R)) (hn : R.length ≤ 400)
    (hof : ∀ j, (Lit.int .i64 (R.getD j default).f1).wf = true) (hP : FRep w g w0.heap.size F (fx0 F)) :
    Calls Try.prog 19 #[v, .func (.func 21) #[.pointer (some ⟨g, 0, none⟩)] #[]] w fun e w' => ∃ r, e = .returned r ∧ NOwns w' w0.heap.size r ((List.range R.length).map (fobsAt F R)) ∧ Below w0.heap.size w0 w' := by
  obtain ⟨ao, cp, ev⟩ := row.form
  rw [List.length_map] at ev
  obtain ⟨i0, hi, hz0, hz1, hz2⟩ := info_parts infoFO
  obtain ⟨n, en⟩ : ∃ n, n = R.length := ⟨_, rfl⟩
  have HH : Hid _ := And.intro row (And.intro hof (And.intro hP (And.intro hbel (And.intro hF en))))
  rw [← en] at hn ⊢
  rw [← en] at ev
  subst ev
  clear row hof hP en hF
  go_enter Try.func19, Try.ntmps19
  go_wp2_with (at_make; refine wpList_make_full _ rfl _ _ 26 rfl w.heap.size 43 i0 (.agg #[.int .i64 0, .int .i64 0, .int .i64 0, .slice none 0 0]) 4 Try.underlying26 hi hz0 hz1 .i64 .i64 (n : Int) (n : Int) n rfl rfl rfl rfl (by rw [hz2]; omega) (by unfold maxLen; omega) (Nat.le_refl _) ?_; intro w1 hown hg)
  have H1 : Hid _ := And.intro hown ((Below.refl w.heap.size w).grown hg (Nat.le_refl _) (by intro k hk; cases hk))
  clear hown hg
  go_loopg [13] n (fun q i wr => ∃ k : Nat, k ≤ n ∧ q = n - k ∧ i = .int .i64 (k : Int) ∧ RunK g F R w0 w wr n k)
  case atStart =>
    refine ⟨0, by omega, by omega, rfl, _, fun _ => .slice none 0 0, by have := H1.out.1.1; simpa using this, H1.out.1, fun j hj => by omega, fun j hj => by omega, fun i j _ hj => by omega, ?_, HH.out.2.2.2.1.trans (H1.out.2.mono HH.out.2.2.2.1.size)⟩
    exact HH.out.2.2.1.below H1.out.2
  case round =>
    obtain ⟨k, hk, hq, rfl, zs, U, H2⟩ := hrel
    by_cases hlt : k < n
    · obtain ⟨b, off, cap, ev, hbl, hc⟩ := HH.out.1.at' (by rw [List.length_map]; have := HH.out.2.2.2.2.2; omega)
      simp only [Value.slice.injEq] at ev
      obtain ⟨rfl, em2, rfl⟩ := ev
      clear em2
      have e0 := HH.out.2.2.2.2.2
      have hck := hc k (by rw [List.length_map]; omega)
      rw [SFlowOp.at R k (by omega)] at hck
      have hgl : w.heap.size < wr.heap.size := (H2.ow.lt w.heap.size rfl).2
      obtain ⟨o, eo⟩ : ∃ o, o = R.getD k default := ⟨_, rfl⟩
      have hfk := HH.out.2.1 k
      rw [← eo] at hck hfk
      have c0 : wr.cell? ⟨b, off + k * 4, none⟩ = some (.int .i64 o.f0) := (H2.bw.cell (p := ⟨b, off + (k * 4 + 0), none⟩) hbl).trans (hck 0 (by omega))
      have c1 : wr.cell? ⟨b, off + k * 4 + 1, none⟩ = some (.int .i64 o.f1) := (H2.bw.cell (p := ⟨b, off + (k * 4 + 1), none⟩) hbl).trans (hck 1 (by omega))
      have c2 : wr.cell? ⟨b, off + k * 4 + 2, none⟩ = some (.int .i64 o.f2) := (H2.bw.cell (p := ⟨b, off + (k * 4 + 2), none⟩) hbl).trans (hck 2 (by omega))
      have c3 : wr.cell? ⟨b, off + k * 4 + 3, none⟩ = some (.bool o.f3) := (H2.bw.cell (p := ⟨b, off + (k * 4 + 3), none⟩) hbl).trans (hck 3 (by omega))
      have BA : Below wr.heap.size wr (wr.alloc (.cells #[.int .i64 o.f0, .int .i64 o.f1, .int .i64 o.f2, .bool o.f3] 46)) := (Below.refl _ _).alloc (Nat.le_refl _) _
      have hI := frunP_inv HH.out.2.2.2.2.1 R k (by omega)
      have C := runI g w0.heap.size F HH.out.2.2.2.2.1 (frunP F R k) k o.f0 o.f1 o.f2 o.f3 _ (H2.rep.below BA) hI (by omega) (Nat.le_trans H2.bw.size BA.size) hfk
      obtain ⟨S, eS⟩ : ∃ S, S = fstep F (frunP F R k) o.f0 o.f1 o.f2 o.f3 := ⟨_, rfl⟩
      rw [← eS] at C
      have eP : frunP F R (k + 1) = S.1 := by rw [eS, eo]; rfl
      have eO : fobsAt F R k = S.2 := by rw [eS, eo]; rfl
      have H4 : Hid _ := And.intro C (And.intro eP (And.intro BA eO))
      clear C hck hc eo e0 eS eP eO BA hI hfk
      obtain ⟨x0, x1, x2, x3⟩ := o
      dsimp only at *
      have H2H : Hid _ := And.intro H2 True.intro
      clear H2
      go_wp2_with fail
      refine H4.out.1.mono ?_
      rintro e w2 ⟨fv, rfl, G2, P2, C2⟩
      have chA : FCh w0.heap.size wr w2 := (ChT.of_below H4.out.2.2.1).trans C2
      have ow2 := chA.owns H2H.out.1.ow (by decide)
      have h2z := C2.size
      obtain ⟨fa, fn, fc, ef, efn⟩ := slice_form G2
      obtain ⟨q0, eq0⟩ : ∃ x, x = S.2.code := ⟨_, rfl⟩
      obtain ⟨q1, eq1⟩ : ∃ x, x = S.2.id := ⟨_, rfl⟩
      obtain ⟨q2, eq2⟩ : ∃ x, x = S.2.cnt := ⟨_, rfl⟩
      rw [← eq0, ← eq1, ← eq2]
      have d0 : k * 4 < n * 4 := by omega
      have s0 : w2.cell? ⟨w.heap.size, k * 4, none⟩ = zs[k * 4]? := ow2.cellAt (k * 4) d0
      obtain ⟨z0, hz0'⟩ : ∃ z, zs[k * 4]? = some z := ⟨zs[k * 4]'(by have := H2H.out.1.zl; omega), by simp [H2H.out.1.zl, d0]⟩
      rw [hz0'] at s0
      have f0 := ow2.frozenAt (k * 4)
      have d1 : k * 4 + 1 < n * 4 := by omega
      have s1 : w2.cell? ⟨w.heap.size, k * 4 + 1, none⟩ = zs[k * 4 + 1]? := ow2.cellAt (k * 4 + 1) d1
      obtain ⟨z1, hz1'⟩ : ∃ z, zs[k * 4 + 1]? = some z := ⟨zs[k * 4 + 1]'(by have := H2H.out.1.zl; omega), by simp [H2H.out.1.zl, d1]⟩
      rw [hz1'] at s1
      have f1 := ow2.frozenAt (k * 4 + 1)
      have d2 : k * 4 + 2 < n * 4 := by omega
      have s2 : w2.cell? ⟨w.heap.size, k * 4 + 2, none⟩ = zs[k * 4 + 2]? := ow2.cellAt (k * 4 + 2) d2
      obtain ⟨z2, hz2'⟩ : ∃ z, zs[k * 4 + 2]? = some z := ⟨zs[k * 4 + 2]'(by have := H2H.out.1.zl; omega), by simp [H2H.out.1.zl, d2]⟩
      rw [hz2'] at s2
      have f2 := ow2.frozenAt (k * 4 + 2)
      have d3 : k * 4 + 3 < n * 4 := by omega
      have s3 : w2.cell? ⟨w.heap.size, k * 4 + 3, none⟩ = zs[k * 4 + 3]? := ow2.cellAt (k * 4 + 3) d3
      obtain ⟨z3, hz3'⟩ : ∃ z, zs[k * 4 + 3]? = some z := ⟨zs[k * 4 + 3]'(by have := H2H.out.1.zl; omega), by simp [H2H.out.1.zl, d3]⟩
      rw [hz3'] at s3
      have f3 := ow2.frozenAt (k * 4 + 3)
      have H3 : Hid _ := And.intro ow2 (And.intro G2 (And.intro P2 chA))
      have HQ : Hid _ := And.intro eq0 (And.intro eq1 (And.intro eq2 ef))
      clear ow2 G2 P2 chA C2 eq0 eq1 eq2 efn hz0' hz1' hz2' hz3'
      subst ef
      go_wp2
      go_roundg (n - (k + 1))
      case measure => omega
      case rel =>
        obtain ⟨eq0, eq1, eq2, -⟩ := HQ.out
        obtain ⟨zl, ow, cs, inn, ap, rep, bw⟩ := H2H.out.1
        obtain ⟨r, er⟩ : ∃ r : Value, r = .slice fa fn fc := ⟨_, rfl⟩
        obtain ⟨cur, hbo⟩ := own_blk4 H3.out.1
        have hor : GOwns 87 8 w2 (w.heap.size + 1) r (S.2.fr.map frC) := by rw [er]; exact H3.out.2.1.mono (by simp; omega)
        have hlow : ∀ j, j < k → GOwns 87 8 w2 (w.heap.size + 1) (U j) ((fobsAt F R j).fr.map frC) := fun j hj => GOwns.ch H3.out.2.2.2 (inn j hj) (by decide)
        rw [← er]
        refine ⟨k + 1, by omega, rfl, by go_num, ((((zs.set (k * 4) (.int .i64 q0)).set (k * 4 + 1) (.int .i64 q1)).set (k * 4 + 2) (.int .i64 q2)).set (k * 4 + 3) r), fun j => if j = k then r else U j, ⟨by simp only [List.length_set]; exact zl, ((((H3.out.1.stored (k * 4) _).1.stored (k * 4 + 1) _).1.stored (k * 4 + 2) _).1.stored (k * 4 + 3) _).1, fun j hj f hf => ?_, fun j hj => ?_, fun i j hij hj t ht => ?_, ?_, (((((H2H.out.1.bw.trans (H3.out.2.2.2.toBelow H2H.out.1.bw.size)).setCell (p := ⟨w.heap.size, k * 4, none⟩) hbel.size _).setCell (p := ⟨w.heap.size, k * 4 + 1, none⟩) hbel.size _).setCell (p := ⟨w.heap.size, k * 4 + 2, none⟩) hbel.size _).setCell (p := ⟨w.heap.size, k * 4 + 3, none⟩) hbel.size _)⟩⟩
        · by_cases hjk : j = k
          · subst hjk
            rw [if_pos rfl, H4.out.2.2.2]
            unfold FO.c
            rw [← eq0, ← eq1, ← eq2]
            obtain rfl | rfl | rfl | rfl : f = 0 ∨ f = 1 ∨ f = 2 ∨ f = 3 := by omega
            · rw [show j * 4 + 0 = j * 4 from rfl, List.getElem?_set_ne (by omega), List.getElem?_set_ne (by omega), List.getElem?_set_ne (by omega), List.getElem?_set_self (by first | omega | (simp only [List.length_set]; omega))]; rfl
            · rw [List.getElem?_set_ne (by omega), List.getElem?_set_ne (by omega), List.getElem?_set_self (by first | omega | (simp only [List.length_set]; omega))]; rfl
            · rw [List.getElem?_set_ne (by omega), List.getElem?_set_self (by first | omega | (simp only [List.length_set]; omega))]; rfl
            · rw [List.getElem?_set_self (by first | omega | (simp only [List.length_set]; omega))]; rfl
          · have u := cs j (by omega) f hf
            rw [if_neg hjk, List.getElem?_set_ne (by omega), List.getElem?_set_ne (by omega), List.getElem?_set_ne (by omega), List.getElem?_set_ne (by omega)]; exact u
        · by_cases hjk : j = k
          · rw [if_pos hjk, hjk, H4.out.2.2.2]
            exact (own_set_type (i := k * 4 + 3) (u := r) (own_set_type (i := k * 4 + 2) (u := (.int .i64 q2)) (own_set_type (i := k * 4 + 1) (u := (.int .i64 q1)) (own_set_type (i := k * 4) (u := (.int .i64 q0)) hor hbo (by decide)) (bk_set hbo (k * 4) (.int .i64 q0)) (by decide)) (bk_set (bk_set hbo (k * 4) (.int .i64 q0)) (k * 4 + 1) (.int .i64 q1)) (by decide)) (bk_set (bk_set (bk_set hbo (k * 4) (.int .i64 q0)) (k * 4 + 1) (.int .i64 q1)) (k * 4 + 2) (.int .i64 q2)) (by decide))
          · rw [if_neg hjk]
            exact (own_set_type (i := k * 4 + 3) (u := r) (own_set_type (i := k * 4 + 2) (u := (.int .i64 q2)) (own_set_type (i := k * 4 + 1) (u := (.int .i64 q1)) (own_set_type (i := k * 4) (u := (.int .i64 q0)) (hlow j (by omega)) hbo (by decide)) (bk_set hbo (k * 4) (.int .i64 q0)) (by decide)) (bk_set (bk_set hbo (k * 4) (.int .i64 q0)) (k * 4 + 1) (.int .i64 q1)) (by decide)) (bk_set (bk_set (bk_set hbo (k * 4) (.int .i64 q0)) (k * 4 + 1) (.int .i64 q1)) (k * 4 + 2) (.int .i64 q2)) (by decide))
        · by_cases hjk : j = k
          · subst hjk
            rw [if_pos rfl] at ht
            rw [if_neg (by omega)]
            have hx := (inn i hij).bounds
            intro e
            have a1 := (hx t e.symm).2
            have a2 := (H3.out.2.1.bounds t (by rw [← er]; exact ht)).1
            simp at a2
            omega
          · rw [if_neg hjk] at ht
            rw [if_neg (by omega)]
            exact ap i j hij (by omega) t ht
        · rw [H4.out.2.1]
          exact ((((H3.out.2.2.1.setN' hbo (k * 4) (.int .i64 q0)).setN' (bk_set hbo (k * 4) (.int .i64 q0)) (k * 4 + 1) (.int .i64 q1)).setN' (bk_set (bk_set hbo (k * 4) (.int .i64 q0)) (k * 4 + 1) (.int .i64 q1)) (k * 4 + 2) (.int .i64 q2)).setN' (bk_set (bk_set (bk_set hbo (k * 4) (.int .i64 q0)) (k * 4 + 1) (.int .i64 q1)) (k * 4 + 2) (.int .i64 q2)) (k * 4 + 3) r)
    · obtain rfl : k = n := by omega
      have H2H : Hid _ := And.intro H2 True.intro
      clear H2
      go_wp2
      go_ret
      obtain ⟨zl, ow, cs, inn, ap, rep, bw⟩ := H2H.out.1
      have hlen : ((List.range k).map (fobsAt F R)).length = k := by rw [List.length_map, List.length_range]
      have hat : ∀ j, j < k → ((List.range k).map (fobsAt F R)).getD j default = fobsAt F R j := fun j hj => by simp [List.getD, hj]
      refine ⟨_, rfl, ⟨U, ⟨zs, by rw [zl_length, hlen]; exact owns_mono ow hbel.size, fun j hj f hf => ?_⟩, fun j hj => ?_, fun i j hij hj => ap i j hij (by rw [hlen] at hj; exact hj)⟩, bw⟩
      · rw [zl_length, hlen] at hj
        rw [zl_at _ _ _ _ (by rw [hlen]; exact hj), hat j hj]
        exact cs j hj f hf
      · rw [hlen] at hj
        rw [hat j hj]
        exact (inn j hj).mono (by have := hbel.size; omega)
end Go.Proofs.Ytcoakpmfappnlaa
