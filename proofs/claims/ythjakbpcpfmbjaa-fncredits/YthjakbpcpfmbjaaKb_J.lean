import Derived.Test.YthjakbpcpfmbjaaKb_I
namespace Go.Proofs.Ythjakbpcpfmbjaa
open Go.RowKit
set_option linter.unusedVariables false
set_option linter.unusedSimpArgs false

/-- Behind k operations. -/
structure RunJ (g : Nat) (F : FS) (R : List SFlowOp) (w0 w wr : World) (n k : Nat) (zs : List Value) (U : Nat → Value) : Prop where
  zl : zs.length = n * 4
  ow : wr.ownsRow w.heap.size 35 4 (.slice (some ⟨w.heap.size, 0, none⟩) n n) n zs
  cs : ∀ j, j < k → ∀ f, f < 4 → zs[j * 4 + f]? = ((fobsAt F R j).c (U j))[f]?
  inn : ∀ j, j < k → GOwns 38 8 wr (w.heap.size + 1) (U j) ((fobsAt F R j).fr.map frC)
  ap : ∀ (i j : Nat), i < j → j < k → ∀ t, (U j).ownBlock = some t → some t ≠ (U i).ownBlock
  rep : FRep wr g w0.heap.size F (frunP F R k)
  bw : Below w0.heap.size w0 wr
def RunK (g : Nat) (F : FS) (R : List SFlowOp) (w0 w wr : World) (n k : Nat) : Prop := ∃ zs U, RunJ g F R w0 w wr n k zs U
theorem infoFO : (Try.prog.info? 35).map (fun i => (i.zero, i.size, i.bytes)) = some (some (.agg #[.int .i64 0, .int .i64 0, .int .i64 0, .slice none 0 0]), 4, 48) := by kernel_rfl
theorem GOwns.bounds {T : TypeId} {K : Nat} {w : World} {base : Nat} {v : Value} {L : List (List Value)} (h : GOwns T K w base v L) : ∀ k, v.ownBlock = some k → base ≤ k ∧ k < w.heap.size := by
  obtain ⟨zs, ho, _⟩ := h
  exact fun j hj => ho.lt j hj
theorem FRep.setN' {w : World} {g base : Nat} {F : FS} {m : FX} (h : FRep w g base F m) {k : Nat} {c : Array Value} {fr : Nat × Nat} (hk : w.heap[k]? = some (.cells c 35 fr)) (i : Nat) (v : Value) : FRep (w.setCell ⟨k, i, none⟩ v) g base F m := by
  obtain ⟨wb, ms, ml, pb, P⟩ := h
  exact ⟨wb, ms, ml, pb, P.setO hk i v⟩
theorem own_blk4 {w : World} {base b n cap : Nat} {zs : List Value} (h : w.ownsRow base 35 4 (.slice (some ⟨b, 0, none⟩) n cap) n zs) : ∃ cur, w.heap[b]? = some (.cells cur 35 (0, 0)) := by
  rcases h.2 with ⟨e, _⟩ | ⟨g, cap', cur, e, _, hg, _⟩
  · cases e
  · simp only [Value.slice.injEq, Option.some.injEq, Addr.mk.injEq] at e
    obtain ⟨⟨rfl, -⟩, -⟩ := e
    exact ⟨cur, hg⟩
set_option maxRecDepth 20000 in
set_option maxHeartbeats 4000000 in
theorem runAllF (g : Nat) (F : FS) (hF : fsOK F = true) (v : Value) (R : List SFlowOp) (w0 w : World) (hbel : Below w0.heap.size w0 w) (row : GRow 4 w0 v (SFlowOp.L R)) (hn : R.length ≤ 400)
    (hof : ∀ j, (Lit.int .i64 (R.getD j default).f1).wf = true) (hP : FRep w g w0.heap.size F (fx0 F)) :
    Calls Try.prog 21 #[v, .func (.func 23) #[.pointer (some ⟨g, 0, none⟩)] #[]] w fun e w' => ∃ r, e = .returned r ∧ NOwns w' w0.heap.size r ((List.range R.length).map (fobsAt F R)) ∧ Below w0.heap.size w0 w' := by
  obtain ⟨ao, cp, ev⟩ := row.form
  rw [List.length_map] at ev
  obtain ⟨i0, hi, hz0, hz1, hz2⟩ := info_parts infoFO
  obtain ⟨n, en⟩ : ∃ n, n = R.length := ⟨_, rfl⟩
  have HH : Hid _ := And.intro row (And.intro hof (And.intro hP (And.intro hbel (And.intro hF en))))
  rw [← en] at hn ⊢
  rw [← en] at ev
  subst ev
  clear row hof hP en hF
  go_enter Try.func21, Try.ntmps21
  go_wp2_with (at_make; refine wpList_make_full _ rfl _ _ 28 rfl w.heap.size 35 i0 (.agg #[.int .i64 0, .int .i64 0, .int .i64 0, .slice none 0 0]) 4 Try.underlying28 hi hz0 hz1 .i64 .i64 (n : Int) (n : Int) n rfl rfl rfl rfl (by rw [hz2]; omega) (by unfold maxLen; omega) (Nat.le_refl _) ?_; intro w1 hown hg)
  have H1 : Hid _ := And.intro hown ((Below.refl w.heap.size w).grown hg (Nat.le_refl _) (by intro k hk; cases hk))
  clear hown hg
  go_loopg [13] n (fun q i wr => ∃ k : Nat, k ≤ n ∧ q = n - k ∧ i = .int .i64 (k : Int) ∧ RunK g F R w0 w wr n k)
  case atStart =>
    refine ⟨0, by omega, by omega, rfl, _, fun _ => .slice none 0 0, by have := H1.out.1.1; simpa using this, H1.out.1, fun j hj => by omega, fun j hj => by omega, fun i j _ hj => by omega, ?_, HH.out.2.2.2.1.trans (H1.out.2.mono HH.out.2.2.2.1.size)⟩
    exact HH.out.2.2.1.below H1.out.2
  case round =>
    obtain ⟨k, hk, hq, rfl, zs, U, H2⟩ := hrel
    by_cases hlt : k < n
    · obtain ⟨b, off, cap, ev, hbl, hc⟩ := HH.out.1.at' (by rw [List.length_map]; have := HH.out.2.2.2.2.2; omega)
      simp only [Value.slice.injEq] at ev
      obtain ⟨rfl, em2, rfl⟩ := ev
      clear em2
      have e0 := HH.out.2.2.2.2.2
      have hck := hc k (by rw [List.length_map]; omega)
      rw [SFlowOp.at R k (by omega)] at hck
      have hgl : w.heap.size < wr.heap.size := (H2.ow.lt w.heap.size rfl).2
      obtain ⟨o, eo⟩ : ∃ o, o = R.getD k default := ⟨_, rfl⟩
      have hfk := HH.out.2.1 k
      rw [← eo] at hck hfk
      have c0 : wr.cell? ⟨b, off + k * 4, none⟩ = some (.int .i64 o.f0) := (H2.bw.cell (p := ⟨b, off + (k * 4 + 0), none⟩) hbl).trans (hck 0 (by omega))
      have c1 : wr.cell? ⟨b, off + k * 4 + 1, none⟩ = some (.int .i64 o.f1) := (H2.bw.cell (p := ⟨b, off + (k * 4 + 1), none⟩) hbl).trans (hck 1 (by omega))
      have c2 : wr.cell? ⟨b, off + k * 4 + 2, none⟩ = some (.int .i64 o.f2) := (H2.bw.cell (p := ⟨b, off + (k * 4 + 2), none⟩) hbl).trans (hck 2 (by omega))
      have c3 : wr.cell? ⟨b, off + k * 4 + 3, none⟩ = some (.bool o.f3) := (H2.bw.cell (p := ⟨b, off + (k * 4 + 3), none⟩) hbl).trans (hck 3 (by omega))
      have BA : Below wr.heap.size wr (wr.alloc (.cells #[.int .i64 o.f0, .int .i64 o.f1, .int .i64 o.f2, .bool o.f3] 32)) := (Below.refl _ _).alloc (Nat.le_refl _) _
      have hI := frunP_inv HH.out.2.2.2.2.1 R k (by omega)
      have C := runI g w0.heap.size F HH.out.2.2.2.2.1 (frunP F R k) k o.f0 o.f1 o.f2 o.f3 _ (H2.rep.below BA) hI (by omega) (Nat.le_trans H2.bw.size BA.size) hfk
      obtain ⟨S, eS⟩ : ∃ S, S = fstep F (frunP F R k) o.f0 o.f1 o.f2 o.f3 := ⟨_, rfl⟩
      rw [← eS] at C
      have eP : frunP F R (k + 1) = S.1 := by rw [eS, eo]; rfl
      have eO : fobsAt F R k = S.2 := by rw [eS, eo]; rfl
      have H4 : Hid _ := And.intro C (And.intro eP (And.intro BA eO))
      clear C hck hc eo e0 eS eP eO BA hI hfk
      obtain ⟨x0, x1, x2, x3⟩ := o
      dsimp only at *
      have H2H : Hid _ := And.intro H2 True.intro
      clear H2
      go_wp2_with fail
      refine H4.out.1.mono ?_
      rintro e w2 ⟨fv, rfl, G2, P2, C2⟩
      have chA : FCh w0.heap.size wr w2 := (ChT.of_below H4.out.2.2.1).trans C2
      have ow2 := chA.owns H2H.out.1.ow (by decide)
      have h2z := C2.size
      obtain ⟨fa, fn, fc, ef, efn⟩ := slice_form G2
      obtain ⟨q0, eq0⟩ : ∃ x, x = S.2.code := ⟨_, rfl⟩
      obtain ⟨q1, eq1⟩ : ∃ x, x = S.2.id := ⟨_, rfl⟩
      obtain ⟨q2, eq2⟩ : ∃ x, x = S.2.cnt := ⟨_, rfl⟩
      rw [← eq0, ← eq1, ← eq2]
      have d0 : k * 4 < n * 4 := by omega
      have s0 : w2.cell? ⟨w.heap.size, k * 4, none⟩ = zs[k * 4]? := ow2.cellAt (k * 4) d0
      obtain ⟨z0, hz0'⟩ : ∃ z, zs[k * 4]? = some z := ⟨zs[k * 4]'(by have := H2H.out.1.zl; omega), by simp [H2H.out.1.zl, d0]⟩
      rw [hz0'] at s0
      have f0 := ow2.frozenAt (k * 4)
      have d1 : k * 4 + 1 < n * 4 := by omega
      have s1 : w2.cell? ⟨w.heap.size, k * 4 + 1, none⟩ = zs[k * 4 + 1]? := ow2.cellAt (k * 4 + 1) d1
      obtain ⟨z1, hz1'⟩ : ∃ z, zs[k * 4 + 1]? = some z := ⟨zs[k * 4 + 1]'(by have := H2H.out.1.zl; omega), by simp [H2H.out.1.zl, d1]⟩
      rw [hz1'] at s1
      have f1 := ow2.frozenAt (k * 4 + 1)
      have d2 : k * 4 + 2 < n * 4 := by omega
      have s2 : w2.cell? ⟨w.heap.size, k * 4 + 2, none⟩ = zs[k * 4 + 2]? := ow2.cellAt (k * 4 + 2) d2
      obtain ⟨z2, hz2'⟩ : ∃ z, zs[k * 4 + 2]? = some z := ⟨zs[k * 4 + 2]'(by have := H2H.out.1.zl; omega), by simp [H2H.out.1.zl, d2]⟩
      rw [hz2'] at s2
      have f2 := ow2.frozenAt (k * 4 + 2)
      have d3 : k * 4 + 3 < n * 4 := by omega
      have s3 : w2.cell? ⟨w.heap.size, k * 4 + 3, none⟩ = zs[k * 4 + 3]? := ow2.cellAt (k * 4 + 3) d3
      obtain ⟨z3, hz3'⟩ : ∃ z, zs[k * 4 + 3]? = some z := ⟨zs[k * 4 + 3]'(by have := H2H.out.1.zl; omega), by simp [H2H.out.1.zl, d3]⟩
      rw [hz3'] at s3
      have f3 := ow2.frozenAt (k * 4 + 3)
      have H3 : Hid _ := And.intro ow2 (And.intro G2 (And.intro P2 chA))
      have HQ : Hid _ := And.intro eq0 (And.intro eq1 (And.intro eq2 ef))
      clear ow2 G2 P2 chA C2 eq0 eq1 eq2 efn hz0' hz1' hz2' hz3'
      subst ef
      go_wp2
      go_roundg (n - (k + 1))
      case measure => omega
      case rel =>
        obtain ⟨eq0, eq1, eq2, -⟩ := HQ.out
        obtain ⟨zl, ow, cs, inn, ap, rep, bw⟩ := H2H.out.1
        obtain ⟨r, er⟩ : ∃ r : Value, r = .slice fa fn fc := ⟨_, rfl⟩
        obtain ⟨cur, hbo⟩ := own_blk4 H3.out.1
        have hor : GOwns 38 8 w2 (w.heap.size + 1) r (S.2.fr.map frC) := by rw [er]; exact H3.out.2.1.mono (by simp; omega)
        have hlow : ∀ j, j < k → GOwns 38 8 w2 (w.heap.size + 1) (U j) ((fobsAt F R j).fr.map frC) := fun j hj => GOwns.ch H3.out.2.2.2 (inn j hj) (by decide)
        rw [← er]
        refine ⟨k + 1, by omega, rfl, by go_num, ((((zs.set (k * 4) (.int .i64 q0)).set (k * 4 + 1) (.int .i64 q1)).set (k * 4 + 2) (.int .i64 q2)).set (k * 4 + 3) r), fun j => if j = k then r else U j, ⟨by simp only [List.length_set]; exact zl, ((((H3.out.1.stored (k * 4) _).1.stored (k * 4 + 1) _).1.stored (k * 4 + 2) _).1.stored (k * 4 + 3) _).1, fun j hj f hf => ?_, fun j hj => ?_, fun i j hij hj t ht => ?_, ?_, (((((H2H.out.1.bw.trans (H3.out.2.2.2.toBelow H2H.out.1.bw.size)).setCell (p := ⟨w.heap.size, k * 4, none⟩) hbel.size _).setCell (p := ⟨w.heap.size, k * 4 + 1, none⟩) hbel.size _).setCell (p := ⟨w.heap.size, k * 4 + 2, none⟩) hbel.size _).setCell (p := ⟨w.heap.size, k * 4 + 3, none⟩) hbel.size _)⟩⟩
        · by_cases hjk : j = k
          · subst hjk
            rw [if_pos rfl, H4.out.2.2.2]
            unfold FO.c
            rw [← eq0, ← eq1, ← eq2]
            obtain rfl | rfl | rfl | rfl : f = 0 ∨ f = 1 ∨ f = 2 ∨ f = 3 := by omega
            · rw [show j * 4 + 0 = j * 4 from rfl, List.getElem?_set_ne (by omega), List.getElem?_set_ne (by omega), List.getElem?_set_ne (by omega), List.getElem?_set_self (by first | omega | (simp only [List.length_set]; omega))]; rfl
            · rw [List.getElem?_set_ne (by omega), List.getElem?_set_ne (by omega), List.getElem?_set_self (by first | omega | (simp only [List.length_set]; omega))]; rfl
            · rw [List.getElem?_set_ne (by omega), List.getElem?_set_self (by first | omega | (simp only [List.length_set]; omega))]; rfl
            · rw [List.getElem?_set_self (by first | omega | (simp only [List.length_set]; omega))]; rfl
          · have u := cs j (by omega) f hf
            rw [if_neg hjk, List.getElem?_set_ne (by omega), List.getElem?_set_ne (by omega), List.getElem?_set_ne (by omega), List.getElem?_set_ne (by omega)]; exact u
        · by_cases hjk : j = k
          · rw [if_pos hjk, hjk, H4.out.2.2.2]
            exact (own_set_type (i := k * 4 + 3) (u := r) (own_set_type (i := k * 4 + 2) (u := (.int .i64 q2)) (own_set_type (i := k * 4 + 1) (u := (.int .i64 q1)) (own_set_type (i := k * 4) (u := (.int .i64 q0)) hor hbo (by decide)) (bk_set hbo (k * 4) (.int .i64 q0)) (by decide)) (bk_set (bk_set hbo (k * 4) (.int .i64 q0)) (k * 4 + 1) (.int .i64 q1)) (by decide)) (bk_set (bk_set (bk_set hbo (k * 4) (.int .i64 q0)) (k * 4 + 1) (.int .i64 q1)) (k * 4 + 2) (.int .i64 q2)) (by decide))
          · rw [if_neg hjk]
            exact (own_set_type (i := k * 4 + 3) (u := r) (own_set_type (i := k * 4 + 2) (u := (.int .i64 q2)) (own_set_type (i := k * 4 + 1) (u := (.int .i64 q1)) (own_set_type (i := k * 4) (u := (.int .i64 q0)) (hlow j (by omega)) hbo (by decide)) (bk_set hbo (k * 4) (.int .i64 q0)) (by decide)) (bk_set (bk_set hbo (k * 4) (.int .i64 q0)) (k * 4 + 1) (.int .i64 q1)) (by decide)) (bk_set (bk_set (bk_set hbo (k * 4) (.int .i64 q0)) (k * 4 + 1) (.int .i64 q1)) (k * 4 + 2) (.int .i64 q2)) (by decide))
        · by_cases hjk : j = k
          · subst hjk
            rw [if_pos rfl] at ht
            rw [if_neg (by omega)]
            have hx := (inn i hij).bounds
            intro e
            have a1 := (hx t e.symm).2
            have a2 := (H3.out.2.1.bounds t (by rw [← er]; exact ht)).1
            simp at a2
            omega
          · rw [if_neg hjk] at ht
            rw [if_neg (by omega)]
            exact ap i j hij (by omega) t ht
        · rw [H4.out.2.1]
          exact ((((H3.out.2.2.1.setN' hbo (k * 4) (.int .i64 q0)).setN' (bk_set hbo (k * 4) (.int .i64 q0)) (k * 4 + 1) (.int .i64 q1)).setN' (bk_set (bk_set hbo (k * 4) (.int .i64 q0)) (k * 4 + 1) (.int .i64 q1)) (k * 4 + 2) (.int .i64 q2)).setN' (bk_set (bk_set (bk_set hbo (k * 4) (.int .i64 q0)) (k * 4 + 1) (.int .i64 q1)) (k * 4 + 2) (.int .i64 q2)) (k * 4 + 3) r)
    · obtain rfl : k = n := by omega
      have H2H : Hid _ := And.intro H2 True.intro
      clear H2
      go_wp2
      go_ret
      obtain ⟨zl, ow, cs, inn, ap, rep, bw⟩ := H2H.out.1
      have hlen : ((List.range k).map (fobsAt F R)).length = k := by rw [List.length_map, List.length_range]
      have hat : ∀ j, j < k → ((List.range k).map (fobsAt F R)).getD j default = fobsAt F R j := fun j hj => by simp [List.getD, hj]
      refine ⟨_, rfl, ⟨U, ⟨zs, by rw [zl_length, hlen]; exact owns_mono ow hbel.size, fun j hj f hf => ?_⟩, fun j hj => ?_, fun i j hij hj => ap i j hij (by rw [hlen] at hj; exact hj)⟩, bw⟩
      · rw [zl_length, hlen] at hj
        rw [zl_at _ _ _ _ (by rw [hlen]; exact hj), hat j hj]
        exact cs j hj f hf
      · rw [hlen] at hj
        rw [hat j hj]
        exact (inn j hj).mono (by have := hbel.size; omega)
end Go.Proofs.Ythjakbpcpfmbjaa

namespace Go.Proofs.Ythjakbpcpfmbjaa
open Go.RowKit
set_option linter.unusedVariables false
set_option linter.unusedSimpArgs false

/-- The setup as a value. -/
def fsV (F : FS) : Value := .agg #[.bool F.sv, .int .i64 F.cw, .int .i64 F.sw, .int .i64 F.tw, .int .i64 F.ow, .int .i64 F.pc, .int .i64 F.ps, .int .i64 F.pt, .int .i64 F.po]

set_option maxRecDepth 20000 in
set_option maxHeartbeats 4000000 in
theorem validI (F : FS) (w : World) : Calls Try.prog 20 #[fsV F] w fun e w' => e = .returned (.bool (fsOK F)) ∧ Below w.heap.size w w' := by
  obtain ⟨sv, cw, sw, tw, ow, pc, ps, pt, po⟩ := F
  unfold fsV
  dsimp only
  have eF : fsOK ⟨sv, cw, sw, tw, ow, pc, ps, pt, po⟩ = decide (1 ≤ min cw sw ∧ max cw sw ≤ 16384 ∧ 0 ≤ min tw ow ∧ max tw ow ≤ 64 ∧ 0 ≤ min pc ps ∧ max pc ps ≤ 4611686018427387903 ∧ 0 ≤ min pt po ∧ max pt po ≤ 1152921504606846976) := by
    unfold fsOK
    refine decide_eq_decide.2 ?_
    dsimp only
    omega
  rw [eF]
  clear eF
  obtain ⟨z0, e0⟩ : ∃ z, min cw sw = z := ⟨_, rfl⟩
  obtain ⟨z1, e1⟩ : ∃ z, max cw sw = z := ⟨_, rfl⟩
  obtain ⟨z2, e2⟩ : ∃ z, min tw ow = z := ⟨_, rfl⟩
  obtain ⟨z3, e3⟩ : ∃ z, max tw ow = z := ⟨_, rfl⟩
  obtain ⟨z4, e4⟩ : ∃ z, min pc ps = z := ⟨_, rfl⟩
  obtain ⟨z5, e5⟩ : ∃ z, max pc ps = z := ⟨_, rfl⟩
  obtain ⟨z6, e6⟩ : ∃ z, min pt po = z := ⟨_, rfl⟩
  obtain ⟨z7, e7⟩ : ∃ z, max pt po = z := ⟨_, rfl⟩
  rw [e0, e1, e2, e3, e4, e5, e6, e7]
  by_cases h0 : 1 ≤ z0
  case neg =>
    rw [decide_eq_false (by omega)]
    have d0 : decide (1 ≤ z0) = false := decide_eq_false h0
    go_enter Try.func20, Try.ntmps20
    go_wp2
    go_ret
    exact ⟨rfl, (Below.refl _ _).alloc (Nat.le_refl _) _⟩
  by_cases h1 : z1 ≤ 16384
  case neg =>
    rw [decide_eq_false (by omega)]
    have d1 : decide (z1 ≤ 16384) = false := decide_eq_false h1
    have d0 : decide (1 ≤ z0) = true := decide_eq_true h0
    go_enter Try.func20, Try.ntmps20
    go_wp2
    go_ret
    exact ⟨rfl, (Below.refl _ _).alloc (Nat.le_refl _) _⟩
  by_cases h2 : 0 ≤ z2
  case neg =>
    rw [decide_eq_false (by omega)]
    have d2 : decide (0 ≤ z2) = false := decide_eq_false h2
    have d0 : decide (1 ≤ z0) = true := decide_eq_true h0
    have d1 : decide (z1 ≤ 16384) = true := decide_eq_true h1
    go_enter Try.func20, Try.ntmps20
    go_wp2
    go_ret
    exact ⟨rfl, (Below.refl _ _).alloc (Nat.le_refl _) _⟩
  by_cases h3 : z3 ≤ 64
  case neg =>
    rw [decide_eq_false (by omega)]
    have d3 : decide (z3 ≤ 64) = false := decide_eq_false h3
    have d0 : decide (1 ≤ z0) = true := decide_eq_true h0
    have d1 : decide (z1 ≤ 16384) = true := decide_eq_true h1
    have d2 : decide (0 ≤ z2) = true := decide_eq_true h2
    go_enter Try.func20, Try.ntmps20
    go_wp2
    go_ret
    exact ⟨rfl, (Below.refl _ _).alloc (Nat.le_refl _) _⟩
  by_cases h4 : 0 ≤ z4
  case neg =>
    rw [decide_eq_false (by omega)]
    have d4 : decide (0 ≤ z4) = false := decide_eq_false h4
    have d0 : decide (1 ≤ z0) = true := decide_eq_true h0
    have d1 : decide (z1 ≤ 16384) = true := decide_eq_true h1
    have d2 : decide (0 ≤ z2) = true := decide_eq_true h2
    have d3 : decide (z3 ≤ 64) = true := decide_eq_true h3
    go_enter Try.func20, Try.ntmps20
    go_wp2
    go_ret
    exact ⟨rfl, (Below.refl _ _).alloc (Nat.le_refl _) _⟩
  by_cases h5 : z5 ≤ 4611686018427387903
  case neg =>
    rw [decide_eq_false (by omega)]
    have d5 : decide (z5 ≤ 4611686018427387903) = false := decide_eq_false h5
    have d0 : decide (1 ≤ z0) = true := decide_eq_true h0
    have d1 : decide (z1 ≤ 16384) = true := decide_eq_true h1
    have d2 : decide (0 ≤ z2) = true := decide_eq_true h2
    have d3 : decide (z3 ≤ 64) = true := decide_eq_true h3
    have d4 : decide (0 ≤ z4) = true := decide_eq_true h4
    go_enter Try.func20, Try.ntmps20
    go_wp2
    go_ret
    exact ⟨rfl, (Below.refl _ _).alloc (Nat.le_refl _) _⟩
  by_cases h6 : 0 ≤ z6
  case neg =>
    rw [decide_eq_false (by omega)]
    have d6 : decide (0 ≤ z6) = false := decide_eq_false h6
    have d0 : decide (1 ≤ z0) = true := decide_eq_true h0
    have d1 : decide (z1 ≤ 16384) = true := decide_eq_true h1
    have d2 : decide (0 ≤ z2) = true := decide_eq_true h2
    have d3 : decide (z3 ≤ 64) = true := decide_eq_true h3
    have d4 : decide (0 ≤ z4) = true := decide_eq_true h4
    have d5 : decide (z5 ≤ 4611686018427387903) = true := decide_eq_true h5
    go_enter Try.func20, Try.ntmps20
    go_wp2
    go_ret
    exact ⟨rfl, (Below.refl _ _).alloc (Nat.le_refl _) _⟩
  by_cases h7 : z7 ≤ 1152921504606846976
  case neg =>
    rw [decide_eq_false (by omega)]
    have d7 : decide (z7 ≤ 1152921504606846976) = false := decide_eq_false h7
    have d0 : decide (1 ≤ z0) = true := decide_eq_true h0
    have d1 : decide (z1 ≤ 16384) = true := decide_eq_true h1
    have d2 : decide (0 ≤ z2) = true := decide_eq_true h2
    have d3 : decide (z3 ≤ 64) = true := decide_eq_true h3
    have d4 : decide (0 ≤ z4) = true := decide_eq_true h4
    have d5 : decide (z5 ≤ 4611686018427387903) = true := decide_eq_true h5
    have d6 : decide (0 ≤ z6) = true := decide_eq_true h6
    go_enter Try.func20, Try.ntmps20
    go_wp2
    go_ret
    exact ⟨rfl, (Below.refl _ _).alloc (Nat.le_refl _) _⟩
  rw [decide_eq_true (by omega)]
  have d0 : decide (1 ≤ z0) = true := decide_eq_true h0
  have d1 : decide (z1 ≤ 16384) = true := decide_eq_true h1
  have d2 : decide (0 ≤ z2) = true := decide_eq_true h2
  have d3 : decide (z3 ≤ 64) = true := decide_eq_true h3
  have d4 : decide (0 ≤ z4) = true := decide_eq_true h4
  have d5 : decide (z5 ≤ 4611686018427387903) = true := decide_eq_true h5
  have d6 : decide (0 ≤ z6) = true := decide_eq_true h6
  have d7 : decide (z7 ≤ 1152921504606846976) = true := decide_eq_true h7
  go_enter Try.func20, Try.ntmps20
  go_wp2
  go_ret
  exact ⟨rfl, (Below.refl _ _).alloc (Nat.le_refl _) _⟩
end Go.Proofs.Ythjakbpcpfmbjaa

namespace Go.Proofs.Ythjakbpcpfmbjaa
open Go.RowKit
set_option linter.unusedVariables false
set_option linter.unusedSimpArgs false

theorem bdr {n : Nat} {w w' : World} (h : Below n w w') : Below n w w'.drew := ⟨h.os, h.tape, h.output, h.size, h.block⟩
theorem mkMapI (w : World) : (Instr.makeMap 73 none).run Try.prog w = .ok (.map (some w.heap.size)) (w.alloc (.map #[] 0)) := run_makeMap _ _
/-- The credit ahead of its counts. -/
def fxz (F : FS) : FX := ⟨[], fun _ => 0, fun _ => 0, fun _ => 0, fun _ => 0, F.pc, F.cw, 0⟩
def NF (w W : World) (F : FS) (m : FX) (g wb ms ml : Nat) : Prop := FR W g w.heap.size F m 0 0 wb ms ml (fun _ => 0) ∧ W.heap[w.heap.size]? = some (.cells #[.bool F.sv, .int .i64 F.cw, .int .i64 F.sw, .int .i64 F.tw, .int .i64 F.ow, .int .i64 F.pc, .int .i64 F.ps, .int .i64 F.pt, .int .i64 F.po] 24 (0, 0)) ∧ Below w.heap.size w W
theorem PM.empty {w : World} {b : Nat} (h : w.heap[b]? = some (.map #[] 0)) : PM w b 0 (fun _ => none) := ⟨_, ⟨#[], 0, h, ⟨by simp, MapKept.stamped_empty 0, by simp⟩, Nat.le_refl _, rfl⟩, fun id _ => rfl⟩
theorem nf_of {w W : World} {F : FS} {g wb ms ml : Nat} (hb : Below w.heap.size w W) (h0 : W.heap[w.heap.size]? = some (.cells #[.bool F.sv, .int .i64 F.cw, .int .i64 F.sw, .int .i64 F.tw, .int .i64 F.ow, .int .i64 F.pc, .int .i64 F.ps, .int .i64 F.pt, .int .i64 F.po] 24 (0, 0))) (hg : W.heap[g]? = some (.cells (fcells F (fxz F) wb ms ml) 78 (0, 0))) (hw : W.heap[wb]? = some (.cells #[.int .i64 F.cw, .int .i64 0, .int .i64 F.pc, .int .i64 0, .int .i64 0, .int .i64 F.cw] 96 (0, 0))) (hs : W.heap[ms]? = some (.map #[] 0)) (hl : W.heap[ml]? = some (.map #[] 0)) (hne : ms ≠ ml) (lo : w.heap.size ≤ g ∧ w.heap.size ≤ wb ∧ w.heap.size ≤ ms ∧ w.heap.size ≤ ml) : NF w W F (fxz F) g wb ms ml := by
  refine ⟨⟨hg, hw, fun j hj => absurd hj (Nat.not_lt_zero _), fun i j hi => absurd hi (Nat.not_lt_zero _), fun j hj => absurd hj (Nat.not_lt_zero _), lo, fun j hj => absurd hj (Nat.not_lt_zero _), ?_, ?_, hne⟩, h0, hb⟩
  · exact (PM.empty hs).congr fun id _ => mS_neg (Nat.not_lt_zero _)
  · exact (PM.empty hl).congr fun id _ => mL_neg (fun q => Nat.not_lt_zero _ q.1)
theorem bk_new5 (w : World) (o1 o2 o3 o4 o5 : Obj) : (((((w.alloc o1).alloc o2).alloc o3).alloc o4).alloc o5).drew.heap[w.heap.size]? = some o1 ∧ (((((w.alloc o1).alloc o2).alloc o3).alloc o4).alloc o5).drew.heap[w.heap.size + 1]? = some o2 ∧ (((((w.alloc o1).alloc o2).alloc o3).alloc o4).alloc o5).drew.heap[w.heap.size + 1 + 1]? = some o3 ∧ (((((w.alloc o1).alloc o2).alloc o3).alloc o4).alloc o5).drew.heap[w.heap.size + 1 + 1 + 1]? = some o4 ∧ (((((w.alloc o1).alloc o2).alloc o3).alloc o4).alloc o5).drew.heap[w.heap.size + 1 + 1 + 1 + 1]? = some o5 ∧ Below w.heap.size w (((((w.alloc o1).alloc o2).alloc o3).alloc o4).alloc o5).drew := by
  have e3 : (((w.alloc o1).alloc o2).alloc o3).heap.size = w.heap.size + 3 := by simp
  have e4 : ((((w.alloc o1).alloc o2).alloc o3).alloc o4).heap.size = w.heap.size + 4 := by simp
  obtain ⟨a, b, c⟩ := bk_new3 w o1 o2 o3
  have d : ((((w.alloc o1).alloc o2).alloc o3).alloc o4).heap[w.heap.size + 3]? = some o4 := by rw [← e3]; exact heap_alloc_new _ _
  have e : (((((w.alloc o1).alloc o2).alloc o3).alloc o4).alloc o5).heap[w.heap.size + 4]? = some o5 := by rw [← e4]; exact heap_alloc_new _ _
  have z : ∀ k, k < w.heap.size + 3 → (((((w.alloc o1).alloc o2).alloc o3).alloc o4).alloc o5).heap[k]? = (((w.alloc o1).alloc o2).alloc o3).heap[k]? := fun k hk => (Below.heap_alloc _ _ _ (by omega)).trans (Below.heap_alloc _ _ _ (by omega))
  refine ⟨(z _ (by omega)).trans a, (z _ (by omega)).trans b, (z _ (by omega)).trans c, (Below.heap_alloc _ _ _ (by omega)).trans d, e, bdr (((((((Below.refl _ _).alloc (Nat.le_refl _) _).alloc (by simp) _).alloc (by simp; omega) _).alloc (by simp; omega) _).alloc (by simp; omega) _))⟩
theorem NF.set {w W : World} {F : FS} {m : FX} {g wb ms ml : Nat} (h : NF w W F m g wb ms ml) (n : Nat) (b : Nat) (hb : b < 4) (x : Int) : NF w ((W.drewN n).setCell ⟨g, 10 + b * 2 + 1, none⟩ (.int .i64 x)) F (stT F m b x) g wb ms ml := by
  obtain ⟨P, h0, hB⟩ := h
  have HS := stT_L F m b x
  refine ⟨(P.drewN n).setK _ _ (fcells_st F m wb ms ml b x hb) HS.1 HS.2.1 HS.2.2.1 HS.2.2.2, ?_, (below_drewN hB n).setCell P.lo.1 _⟩
  exact (bk_other (bk_apart h0 P.bk (by decide)) _ _).trans h0
theorem fx0_st (F : FS) : stT F (stT F (stT F (stT F (fxz F) (bN F.sv false) F.pt) (bN F.sv true) F.po) (bN (!F.sv) false) F.tw) (bN (!F.sv) true) F.ow = fx0 F := by
  have e1 : bS (bN (!F.sv) true) ≠ F.sv := by rw [bS_bN]; cases F.sv <;> decide
  have e2 : bS (bN (!F.sv) false) ≠ F.sv := by rw [bS_bN]; cases F.sv <;> decide
  rw [stT_neg e1, stT_neg e2, stT_pos (bS_bN _ _), stT_pos (bS_bN _ _), bO_bN, bO_bN, bO_bN, bO_bN]
  unfold fx0 fxz
  dsimp only
  congr 1
  · funext x; cases x
    · rw [updB_ne _ _ _ _ (by decide), updB_at]; rfl
    · rw [updB_at]; rfl
  · funext x; cases x
    · rw [updB_ne _ _ _ _ (by decide), updB_at]; rfl
    · rw [updB_at]; rfl
theorem fz_cells (F : FS) (wb ms ml : Nat) : fcells F (fxz F) wb ms ml = #[.bool F.sv, .int .i64 F.cw, .int .i64 F.sw, .int .i64 F.tw, .int .i64 F.ow, .int .i64 F.pc, .int .i64 F.ps, .int .i64 F.pt, .int .i64 F.po, .pointer (some ⟨wb, 0, none⟩), .int .i64 0, .int .i64 0, .int .i64 0, .int .i64 0, .int .i64 0, .int .i64 0, .int .i64 0, .int .i64 0, .map (some (ms)), .map (some (ml))] := by
  have a : ∀ b, kO F (fxz F) b = 0 := fun b => by unfold kO fxz; split <;> rfl
  have c : ∀ b, kT F (fxz F) b = 0 := fun b => by unfold kT fxz; split <;> rfl
  unfold fcells
  rw [a, a, a, a, c, c, c, c]
theorem nf_123 (w : World) (F : FS) : NF w (((((w.alloc (.cells #[.bool F.sv, .int .i64 F.cw, .int .i64 F.sw, .int .i64 F.tw, .int .i64 F.ow, .int .i64 F.pc, .int .i64 F.ps, .int .i64 F.pt, .int .i64 F.po] 24)).alloc (.cells #[.int .i64 F.cw, .int .i64 0, .int .i64 F.pc, .int .i64 0, .int .i64 0, .int .i64 F.cw] 96)).alloc (.map #[] 0)).alloc (.map #[] 0)).alloc (.cells #[.bool F.sv, .int .i64 F.cw, .int .i64 F.sw, .int .i64 F.tw, .int .i64 F.ow, .int .i64 F.pc, .int .i64 F.ps, .int .i64 F.pt, .int .i64 F.po, .pointer (some ⟨w.heap.size + 1, 0, none⟩), .int .i64 0, .int .i64 0, .int .i64 0, .int .i64 0, .int .i64 0, .int .i64 0, .int .i64 0, .int .i64 0, .map (some (w.heap.size + 1 + 1)), .map (some (w.heap.size + 1 + 1 + 1))] 78)).drew F (fxz F) (w.heap.size + 1 + 1 + 1 + 1) (w.heap.size + 1) (w.heap.size + 1 + 1) (w.heap.size + 1 + 1 + 1) := by
  rw [← fz_cells]
  obtain ⟨h0, h1, h2, h3, h4, hb⟩ := bk_new5 w (.cells #[.bool F.sv, .int .i64 F.cw, .int .i64 F.sw, .int .i64 F.tw, .int .i64 F.ow, .int .i64 F.pc, .int .i64 F.ps, .int .i64 F.pt, .int .i64 F.po] 24) (.cells #[.int .i64 F.cw, .int .i64 0, .int .i64 F.pc, .int .i64 0, .int .i64 0, .int .i64 F.cw] 96) (.map #[] 0) (.map #[] 0) (.cells (fcells F (fxz F) (w.heap.size + 1) (w.heap.size + 1 + 1) (w.heap.size + 1 + 1 + 1)) 78)
  exact nf_of hb h0 h4 h1 h2 h3 (by omega) ⟨by omega, by omega, by omega, by omega⟩
theorem nf_132 (w : World) (F : FS) : NF w (((((w.alloc (.cells #[.bool F.sv, .int .i64 F.cw, .int .i64 F.sw, .int .i64 F.tw, .int .i64 F.ow, .int .i64 F.pc, .int .i64 F.ps, .int .i64 F.pt, .int .i64 F.po] 24)).alloc (.cells #[.int .i64 F.cw, .int .i64 0, .int .i64 F.pc, .int .i64 0, .int .i64 0, .int .i64 F.cw] 96)).alloc (.map #[] 0)).alloc (.map #[] 0)).alloc (.cells #[.bool F.sv, .int .i64 F.cw, .int .i64 F.sw, .int .i64 F.tw, .int .i64 F.ow, .int .i64 F.pc, .int .i64 F.ps, .int .i64 F.pt, .int .i64 F.po, .pointer (some ⟨w.heap.size + 1, 0, none⟩), .int .i64 0, .int .i64 0, .int .i64 0, .int .i64 0, .int .i64 0, .int .i64 0, .int .i64 0, .int .i64 0, .map (some (w.heap.size + 1 + 1 + 1)), .map (some (w.heap.size + 1 + 1))] 78)).drew F (fxz F) (w.heap.size + 1 + 1 + 1 + 1) (w.heap.size + 1) (w.heap.size + 1 + 1 + 1) (w.heap.size + 1 + 1) := by
  rw [← fz_cells]
  obtain ⟨h0, h1, h2, h3, h4, hb⟩ := bk_new5 w (.cells #[.bool F.sv, .int .i64 F.cw, .int .i64 F.sw, .int .i64 F.tw, .int .i64 F.ow, .int .i64 F.pc, .int .i64 F.ps, .int .i64 F.pt, .int .i64 F.po] 24) (.cells #[.int .i64 F.cw, .int .i64 0, .int .i64 F.pc, .int .i64 0, .int .i64 0, .int .i64 F.cw] 96) (.map #[] 0) (.map #[] 0) (.cells (fcells F (fxz F) (w.heap.size + 1) (w.heap.size + 1 + 1 + 1) (w.heap.size + 1 + 1)) 78)
  exact nf_of hb h0 h4 h1 h3 h2 (by omega) ⟨by omega, by omega, by omega, by omega⟩
theorem nf_213 (w : World) (F : FS) : NF w (((((w.alloc (.cells #[.bool F.sv, .int .i64 F.cw, .int .i64 F.sw, .int .i64 F.tw, .int .i64 F.ow, .int .i64 F.pc, .int .i64 F.ps, .int .i64 F.pt, .int .i64 F.po] 24)).alloc (.map #[] 0)).alloc (.cells #[.int .i64 F.cw, .int .i64 0, .int .i64 F.pc, .int .i64 0, .int .i64 0, .int .i64 F.cw] 96)).alloc (.map #[] 0)).alloc (.cells #[.bool F.sv, .int .i64 F.cw, .int .i64 F.sw, .int .i64 F.tw, .int .i64 F.ow, .int .i64 F.pc, .int .i64 F.ps, .int .i64 F.pt, .int .i64 F.po, .pointer (some ⟨w.heap.size + 1 + 1, 0, none⟩), .int .i64 0, .int .i64 0, .int .i64 0, .int .i64 0, .int .i64 0, .int .i64 0, .int .i64 0, .int .i64 0, .map (some (w.heap.size + 1)), .map (some (w.heap.size + 1 + 1 + 1))] 78)).drew F (fxz F) (w.heap.size + 1 + 1 + 1 + 1) (w.heap.size + 1 + 1) (w.heap.size + 1) (w.heap.size + 1 + 1 + 1) := by
  rw [← fz_cells]
  obtain ⟨h0, h1, h2, h3, h4, hb⟩ := bk_new5 w (.cells #[.bool F.sv, .int .i64 F.cw, .int .i64 F.sw, .int .i64 F.tw, .int .i64 F.ow, .int .i64 F.pc, .int .i64 F.ps, .int .i64 F.pt, .int .i64 F.po] 24) (.map #[] 0) (.cells #[.int .i64 F.cw, .int .i64 0, .int .i64 F.pc, .int .i64 0, .int .i64 0, .int .i64 F.cw] 96) (.map #[] 0) (.cells (fcells F (fxz F) (w.heap.size + 1 + 1) (w.heap.size + 1) (w.heap.size + 1 + 1 + 1)) 78)
  exact nf_of hb h0 h4 h2 h1 h3 (by omega) ⟨by omega, by omega, by omega, by omega⟩
theorem nf_231 (w : World) (F : FS) : NF w (((((w.alloc (.cells #[.bool F.sv, .int .i64 F.cw, .int .i64 F.sw, .int .i64 F.tw, .int .i64 F.ow, .int .i64 F.pc, .int .i64 F.ps, .int .i64 F.pt, .int .i64 F.po] 24)).alloc (.map #[] 0)).alloc (.cells #[.int .i64 F.cw, .int .i64 0, .int .i64 F.pc, .int .i64 0, .int .i64 0, .int .i64 F.cw] 96)).alloc (.map #[] 0)).alloc (.cells #[.bool F.sv, .int .i64 F.cw, .int .i64 F.sw, .int .i64 F.tw, .int .i64 F.ow, .int .i64 F.pc, .int .i64 F.ps, .int .i64 F.pt, .int .i64 F.po, .pointer (some ⟨w.heap.size + 1 + 1, 0, none⟩), .int .i64 0, .int .i64 0, .int .i64 0, .int .i64 0, .int .i64 0, .int .i64 0, .int .i64 0, .int .i64 0, .map (some (w.heap.size + 1 + 1 + 1)), .map (some (w.heap.size + 1))] 78)).drew F (fxz F) (w.heap.size + 1 + 1 + 1 + 1) (w.heap.size + 1 + 1) (w.heap.size + 1 + 1 + 1) (w.heap.size + 1) := by
  rw [← fz_cells]
  obtain ⟨h0, h1, h2, h3, h4, hb⟩ := bk_new5 w (.cells #[.bool F.sv, .int .i64 F.cw, .int .i64 F.sw, .int .i64 F.tw, .int .i64 F.ow, .int .i64 F.pc, .int .i64 F.ps, .int .i64 F.pt, .int .i64 F.po] 24) (.map #[] 0) (.cells #[.int .i64 F.cw, .int .i64 0, .int .i64 F.pc, .int .i64 0, .int .i64 0, .int .i64 F.cw] 96) (.map #[] 0) (.cells (fcells F (fxz F) (w.heap.size + 1 + 1) (w.heap.size + 1 + 1 + 1) (w.heap.size + 1)) 78)
  exact nf_of hb h0 h4 h2 h3 h1 (by omega) ⟨by omega, by omega, by omega, by omega⟩
theorem nf_312 (w : World) (F : FS) : NF w (((((w.alloc (.cells #[.bool F.sv, .int .i64 F.cw, .int .i64 F.sw, .int .i64 F.tw, .int .i64 F.ow, .int .i64 F.pc, .int .i64 F.ps, .int .i64 F.pt, .int .i64 F.po] 24)).alloc (.map #[] 0)).alloc (.map #[] 0)).alloc (.cells #[.int .i64 F.cw, .int .i64 0, .int .i64 F.pc, .int .i64 0, .int .i64 0, .int .i64 F.cw] 96)).alloc (.cells #[.bool F.sv, .int .i64 F.cw, .int .i64 F.sw, .int .i64 F.tw, .int .i64 F.ow, .int .i64 F.pc, .int .i64 F.ps, .int .i64 F.pt, .int .i64 F.po, .pointer (some ⟨w.heap.size + 1 + 1 + 1, 0, none⟩), .int .i64 0, .int .i64 0, .int .i64 0, .int .i64 0, .int .i64 0, .int .i64 0, .int .i64 0, .int .i64 0, .map (some (w.heap.size + 1)), .map (some (w.heap.size + 1 + 1))] 78)).drew F (fxz F) (w.heap.size + 1 + 1 + 1 + 1) (w.heap.size + 1 + 1 + 1) (w.heap.size + 1) (w.heap.size + 1 + 1) := by
  rw [← fz_cells]
  obtain ⟨h0, h1, h2, h3, h4, hb⟩ := bk_new5 w (.cells #[.bool F.sv, .int .i64 F.cw, .int .i64 F.sw, .int .i64 F.tw, .int .i64 F.ow, .int .i64 F.pc, .int .i64 F.ps, .int .i64 F.pt, .int .i64 F.po] 24) (.map #[] 0) (.map #[] 0) (.cells #[.int .i64 F.cw, .int .i64 0, .int .i64 F.pc, .int .i64 0, .int .i64 0, .int .i64 F.cw] 96) (.cells (fcells F (fxz F) (w.heap.size + 1 + 1 + 1) (w.heap.size + 1) (w.heap.size + 1 + 1)) 78)
  exact nf_of hb h0 h4 h3 h1 h2 (by omega) ⟨by omega, by omega, by omega, by omega⟩
theorem nf_321 (w : World) (F : FS) : NF w (((((w.alloc (.cells #[.bool F.sv, .int .i64 F.cw, .int .i64 F.sw, .int .i64 F.tw, .int .i64 F.ow, .int .i64 F.pc, .int .i64 F.ps, .int .i64 F.pt, .int .i64 F.po] 24)).alloc (.map #[] 0)).alloc (.map #[] 0)).alloc (.cells #[.int .i64 F.cw, .int .i64 0, .int .i64 F.pc, .int .i64 0, .int .i64 0, .int .i64 F.cw] 96)).alloc (.cells #[.bool F.sv, .int .i64 F.cw, .int .i64 F.sw, .int .i64 F.tw, .int .i64 F.ow, .int .i64 F.pc, .int .i64 F.ps, .int .i64 F.pt, .int .i64 F.po, .pointer (some ⟨w.heap.size + 1 + 1 + 1, 0, none⟩), .int .i64 0, .int .i64 0, .int .i64 0, .int .i64 0, .int .i64 0, .int .i64 0, .int .i64 0, .int .i64 0, .map (some (w.heap.size + 1 + 1)), .map (some (w.heap.size + 1))] 78)).drew F (fxz F) (w.heap.size + 1 + 1 + 1 + 1) (w.heap.size + 1 + 1 + 1) (w.heap.size + 1 + 1) (w.heap.size + 1) := by
  rw [← fz_cells]
  obtain ⟨h0, h1, h2, h3, h4, hb⟩ := bk_new5 w (.cells #[.bool F.sv, .int .i64 F.cw, .int .i64 F.sw, .int .i64 F.tw, .int .i64 F.ow, .int .i64 F.pc, .int .i64 F.ps, .int .i64 F.pt, .int .i64 F.po] 24) (.map #[] 0) (.map #[] 0) (.cells #[.int .i64 F.cw, .int .i64 0, .int .i64 F.pc, .int .i64 0, .int .i64 0, .int .i64 F.cw] 96) (.cells (fcells F (fxz F) (w.heap.size + 1 + 1 + 1) (w.heap.size + 1 + 1) (w.heap.size + 1)) 78)
  exact nf_of hb h0 h4 h3 h2 h1 (by omega) ⟨by omega, by omega, by omega, by omega⟩
set_option maxRecDepth 20000 in
set_option maxHeartbeats 4000000 in
theorem newFlowI (F : FS) (w : World) : Calls Try.prog 22 #[fsV F] w fun e w' => ∃ g, e = .returned (.pointer (some ⟨g, 0, none⟩)) ∧ FRep w' g w.heap.size F (fx0 F) ∧ Below w.heap.size w w' := by
  unfold fsV
  have MK := mkMapI
  go_enter Try.func22, Try.ntmps22
  go_upto_region 1 with fail
  go_cut [3] from 4 to 14 (fun v3 wx => ∃ g wb ms ml, v3 = .pointer (some ⟨g, 0, none⟩) ∧ NF w wx F (fxz F) g wb ms ml)
  case first =>
    have KK : ∀ W' : World, Below (w.alloc (.cells #[.bool F.sv, .int .i64 F.cw, .int .i64 F.sw, .int .i64 F.tw, .int .i64 F.ow, .int .i64 F.pc, .int .i64 F.ps, .int .i64 F.pt, .int .i64 F.po] 24)).heap.size (w.alloc (.cells #[.bool F.sv, .int .i64 F.cw, .int .i64 F.sw, .int .i64 F.tw, .int .i64 F.ow, .int .i64 F.pc, .int .i64 F.ps, .int .i64 F.pt, .int .i64 F.po] 24)) W' → (W'.cell? ⟨w.heap.size, 0, none⟩ = some (.bool F.sv) ∧ W'.cell? ⟨w.heap.size, 1, none⟩ = some (.int .i64 F.cw) ∧ W'.cell? ⟨w.heap.size, 2, none⟩ = some (.int .i64 F.sw) ∧ W'.cell? ⟨w.heap.size, 3, none⟩ = some (.int .i64 F.tw) ∧ W'.cell? ⟨w.heap.size, 4, none⟩ = some (.int .i64 F.ow) ∧ W'.cell? ⟨w.heap.size, 5, none⟩ = some (.int .i64 F.pc) ∧ W'.cell? ⟨w.heap.size, 6, none⟩ = some (.int .i64 F.ps) ∧ W'.cell? ⟨w.heap.size, 7, none⟩ = some (.int .i64 F.pt) ∧ W'.cell? ⟨w.heap.size, 8, none⟩ = some (.int .i64 F.po)) := fun W' hb => by
      have e : W'.heap[w.heap.size]? = some (.cells #[.bool F.sv, .int .i64 F.cw, .int .i64 F.sw, .int .i64 F.tw, .int .i64 F.ow, .int .i64 F.pc, .int .i64 F.ps, .int .i64 F.pt, .int .i64 F.po] 24 (0, 0)) := (hb.block _ (by simp)).trans (heap_alloc_new _ _)
      exact ⟨(bk_cell e 0).trans rfl, (bk_cell e 1).trans rfl, (bk_cell e 2).trans rfl, (bk_cell e 3).trans rfl, (bk_cell e 4).trans rfl, (bk_cell e 5).trans rfl, (bk_cell e 6).trans rfl, (bk_cell e 7).trans rfl, (bk_cell e 8).trans rfl⟩
    go_wp2_with fail
    go_region_held3 (fun w' => w'.cell? ⟨w.heap.size, 0, none⟩ = some (.bool F.sv) ∧ w'.cell? ⟨w.heap.size, 1, none⟩ = some (.int .i64 F.cw) ∧ w'.cell? ⟨w.heap.size, 2, none⟩ = some (.int .i64 F.sw) ∧ w'.cell? ⟨w.heap.size, 3, none⟩ = some (.int .i64 F.tw) ∧ w'.cell? ⟨w.heap.size, 4, none⟩ = some (.int .i64 F.ow) ∧ w'.cell? ⟨w.heap.size, 5, none⟩ = some (.int .i64 F.pc) ∧ w'.cell? ⟨w.heap.size, 6, none⟩ = some (.int .i64 F.ps) ∧ w'.cell? ⟨w.heap.size, 7, none⟩ = some (.int .i64 F.pt) ∧ w'.cell? ⟨w.heap.size, 8, none⟩ = some (.int .i64 F.po)) (first | exact KK _ (by repeat (first | (with_reducible exact Below.refl _ _) | (with_reducible refine bdr ?_) | (with_reducible refine Below.alloc ?_ (by simp <;> omega) _))))
      (first
      | (go_at_call 34; refine (newAccI _ _ _).mono ?_; rintro e w3 ⟨rfl, hw3⟩; subst hw3))
    all_goals
      go_wp2
      go_meet
      exact ⟨_, _, _, _, rfl, by first | exact nf_123 w F | exact nf_132 w F | exact nf_213 w F | exact nf_231 w F | exact nf_312 w F | exact nf_321 w F⟩
  case rest =>
  obtain ⟨g, wb, ms, ml, rfl, N0⟩ := hcut
  have HN0 : Hid _ := N0
  clear N0
  go_upto_region 2 with fail
  go_cut [] from 14 to 19 (fun wx => NF w wx F (stT F (fxz F) (bN F.sv false) F.pt) g wb ms ml)
  case first =>
    have P := HN0.out.1
    have KI := fun u => kindI g F.sv true false u
    have eb : (F.sv == true) = F.sv := by cases F.sv <;> rfl
    rw [eb] at KI
    have hb := bN_lt F.sv false
    have k1 := (P.kc (bN F.sv false) hb).2
    have f1 := (P.kfree (bN F.sv false)).2
    have c0 := P.cell 0
    have cs : _ = some (Value.int .i64 F.pt) := bk_cell HN0.out.2.1 7
    have NS := fun q => (show NF w wc F _ g wb ms ml from HN0.out).set q (bN F.sv false) hb F.pt
    have HK : Hid _ := And.intro (KI _ (c0.trans rfl)) (And.intro NS KI)
    clear KI eb NS P c0
    generalize bN F.sv false = b at *
    generalize kT F _ b = t0 at *
    go_wp2_with fail
    go_region_with (first | (go_at_call 35; refine (HK.out.2.2 _ ?_).mono ?_; exact (HN0.out.1.cell 0); rintro e w3 ⟨rfl, q, hw3⟩; subst hw3))
    all_goals
      go_wp2
      go_meet
      exact HK.out.2.1 _
  case rest =>
  have HN1 : Hid _ := hcut
  clear hcut
  go_upto_region 3 with fail
  go_cut [] from 20 to 25 (fun wx => NF w wx F (stT F (stT F (fxz F) (bN F.sv false) F.pt) (bN F.sv true) F.po) g wb ms ml)
  case first =>
    have P := HN1.out.1
    have KI := fun u => kindI g F.sv true true u
    have eb : (F.sv == true) = F.sv := by cases F.sv <;> rfl
    rw [eb] at KI
    have hb := bN_lt F.sv true
    have k1 := (P.kc (bN F.sv true) hb).2
    have f1 := (P.kfree (bN F.sv true)).2
    have c0 := P.cell 0
    have cs : _ = some (Value.int .i64 F.po) := bk_cell HN1.out.2.1 8
    have NS := fun q => (show NF w wc F _ g wb ms ml from HN1.out).set q (bN F.sv true) hb F.po
    have HK : Hid _ := And.intro (KI _ (c0.trans rfl)) (And.intro NS KI)
    clear KI eb NS P c0
    generalize bN F.sv true = b at *
    generalize kT F _ b = t0 at *
    go_wp2_with fail
    go_region_with (first | (go_at_call 35; refine (HK.out.2.2 _ ?_).mono ?_; exact (HN1.out.1.cell 0); rintro e w3 ⟨rfl, q, hw3⟩; subst hw3))
    all_goals
      go_wp2
      go_meet
      exact HK.out.2.1 _
  case rest =>
  have HN2 : Hid _ := hcut
  clear hcut
  go_upto_region 4 with fail
  go_cut [] from 26 to 31 (fun wx => NF w wx F (stT F (stT F (stT F (fxz F) (bN F.sv false) F.pt) (bN F.sv true) F.po) (bN (!F.sv) false) F.tw) g wb ms ml)
  case first =>
    have P := HN2.out.1
    have KI := fun u => kindI g F.sv false false u
    have eb : (F.sv == false) = (!F.sv) := by cases F.sv <;> rfl
    rw [eb] at KI
    have hb := bN_lt (!F.sv) false
    have k1 := (P.kc (bN (!F.sv) false) hb).2
    have f1 := (P.kfree (bN (!F.sv) false)).2
    have c0 := P.cell 0
    have cs : _ = some (Value.int .i64 F.tw) := bk_cell HN2.out.2.1 3
    have NS := fun q => (show NF w wc F _ g wb ms ml from HN2.out).set q (bN (!F.sv) false) hb F.tw
    have HK : Hid _ := And.intro (KI _ (c0.trans rfl)) (And.intro NS KI)
    clear KI eb NS P c0
    generalize bN (!F.sv) false = b at *
    generalize kT F _ b = t0 at *
    go_wp2_with fail
    go_region_with (first | (go_at_call 35; refine (HK.out.2.2 _ ?_).mono ?_; exact (HN2.out.1.cell 0); rintro e w3 ⟨rfl, q, hw3⟩; subst hw3))
    all_goals
      go_wp2
      go_meet
      exact HK.out.2.1 _
  case rest =>
  have HN3 : Hid _ := hcut
  clear hcut
  go_upto_region 5 with fail
  go_cut [] from 32 to 37 (fun wx => NF w wx F (stT F (stT F (stT F (stT F (fxz F) (bN F.sv false) F.pt) (bN F.sv true) F.po) (bN (!F.sv) false) F.tw) (bN (!F.sv) true) F.ow) g wb ms ml)
  case first =>
    have P := HN3.out.1
    have KI := fun u => kindI g F.sv false true u
    have eb : (F.sv == false) = (!F.sv) := by cases F.sv <;> rfl
    rw [eb] at KI
    have hb := bN_lt (!F.sv) true
    have k1 := (P.kc (bN (!F.sv) true) hb).2
    have f1 := (P.kfree (bN (!F.sv) true)).2
    have c0 := P.cell 0
    have cs : _ = some (Value.int .i64 F.ow) := bk_cell HN3.out.2.1 4
    have NS := fun q => (show NF w wc F _ g wb ms ml from HN3.out).set q (bN (!F.sv) true) hb F.ow
    have HK : Hid _ := And.intro (KI _ (c0.trans rfl)) (And.intro NS KI)
    clear KI eb NS P c0
    generalize bN (!F.sv) true = b at *
    generalize kT F _ b = t0 at *
    go_wp2_with fail
    go_region_with (first | (go_at_call 35; refine (HK.out.2.2 _ ?_).mono ?_; exact (HN3.out.1.cell 0); rintro e w3 ⟨rfl, q, hw3⟩; subst hw3))
    all_goals
      go_wp2
      go_meet
      exact HK.out.2.1 _
  case rest =>
  have HN4 : Hid _ := hcut
  clear hcut
  go_wp2
  go_ret
  have N4 := HN4.out
  rw [fx0_st] at N4
  exact ⟨g, rfl, ⟨wb, ms, ml, _, N4.1⟩, N4.2.2⟩
end Go.Proofs.Ythjakbpcpfmbjaa

namespace Go.Proofs.Ythjakbpcpfmbjaa
open Go.RowKit
set_option linter.unusedVariables false
set_option linter.unusedSimpArgs false

theorem nowns_nil (w : World) (base : Nat) : NOwns w base (.slice none 0 0) [] := ⟨fun _ => .slice none 0 0, ⟨[], World.ownsRow_nil _ _ _ _, fun j hj => by simp [zl] at hj⟩, fun j hj => by simp at hj, fun i j _ hj => by simp at hj⟩
set_option maxRecDepth 20000 in
set_option maxHeartbeats 4000000 in
theorem implFL (F : FS) (v : Value) (R : List SFlowOp) (w : World) (row : GRow 4 w v (SFlowOp.L R)) (hof : ∀ j, (Lit.int .i64 (R.getD j default).f1).wf = true) (hl : R.length ≤ 140737488355328) :
    Calls Try.prog 7 #[fsV F, v] w fun e w' => ∃ r, e = .returned (.tuple #[r, .int .i64 (flC F R)]) ∧ NOwns w' w.heap.size r (flY F R) ∧ Below w.heap.size w w' := by
  obtain ⟨ao, cp, ev⟩ := row.form
  rw [List.length_map] at ev
  have hB0 : Below w.heap.size w (w.alloc (.cells #[.bool F.sv, .int .i64 F.cw, .int .i64 F.sw, .int .i64 F.tw, .int .i64 F.ow, .int .i64 F.pc, .int .i64 F.ps, .int .i64 F.pt, .int .i64 F.po] 24)) := (Below.refl _ _).alloc (Nat.le_refl _) _
  by_cases a1 : 400 < R.length
  · have e1 : flC F R = 4 := if_pos a1
    have e2 : flY F R = [] := if_pos (Or.inl a1)
    rw [e1, e2, ev]
    unfold fsV
    have a1' : (400 : Int) < (R.length : Int) := by omega
    have HB : Hid _ := hB0
    generalize R.length = n at *
    clear row hof hB0
    go_enter Try.func7, Try.ntmps7
    go_wp2
    go_ret2
    exact ⟨_, rfl, nowns_nil _ _, HB.out⟩
  have V := fun u => validI F u
  have a1' : ¬ (400 : Int) < (R.length : Int) := by omega
  by_cases a2 : fsOK F = false
  · have e1 : flC F R = 1 := (if_neg a1).trans (if_pos a2)
    have e2 : flY F R = [] := if_pos (Or.inr a2)
    rw [e1, e2, ev]
    rw [a2] at V
    have HV : Hid _ := And.intro V hB0
    generalize R.length = n at *
    clear row hof e1 e2 hB0 V a2 ev
    unfold fsV at HV ⊢
    go_enter Try.func7, Try.ntmps7
    go_wp2_with (first | (go_at_call 20; refine (HV.out.1 _).mono ?_; rintro e w1 ⟨rfl, b1⟩))
    go_ret2
    exact ⟨_, rfl, nowns_nil _ _, HV.out.2.trans (b1.mono HV.out.2.size)⟩
  · have hF : fsOK F = true := by simpa using a2
    have e1 : flC F R = 0 := (if_neg a1).trans (if_neg a2)
    have e2 : flY F R = (List.range R.length).map (fobsAt F R) := if_neg (by intro q; rcases q with q | q; exact a1 q; exact a2 q)
    rw [e1, e2]
    rw [hF] at V
    have N := fun u => newFlowI F u
    have C2 : ∀ (w1 : World) (g b1 : Nat), w.heap.size ≤ b1 → FRep w1 g b1 F (fx0 F) → Below w.heap.size w w1 → Calls Try.prog 21 #[v, .func (.func 23) #[.pointer (some ⟨g, 0, none⟩)] #[]] w1 fun e w' => ∃ r, e = .returned r ∧ NOwns w' w.heap.size r ((List.range R.length).map (fobsAt F R)) ∧ Below w.heap.size w w' := fun w1 g b1 hb1 hr hb => by
      obtain ⟨wb, ms, ml, pb, P⟩ := hr
      refine runAllF g F hF v R w w1 hb row (by omega) hof ⟨wb, ms, ml, pb, ⟨P.bk, P.wk, P.ak, P.inj, P.nw, ?_, fun j hj => Nat.le_trans hb1 (P.lp j hj), P.sm, P.lm, P.ne⟩⟩
      have := P.lo
      omega
    have HH : Hid _ := And.intro V (And.intro N (And.intro C2 hB0))
    rw [ev] at HH ⊢
    generalize (List.range R.length).map (fobsAt F R) = Y at *
    generalize R.length = n at *
    clear row hof V N C2 e1 e2 ev hB0 hF a2
    unfold fsV at HH ⊢
    go_enter Try.func7, Try.ntmps7
    go_wp2_with fail
    go_at_call 20
    refine (HH.out.1 _).mono ?_
    rintro e w1 ⟨rfl, b1⟩
    have B1 := HH.out.2.2.2.trans (b1.mono HH.out.2.2.2.size)
    have k1 : w1.heap[w.heap.size]? = some (.cells #[.bool F.sv, .int .i64 F.cw, .int .i64 F.sw, .int .i64 F.tw, .int .i64 F.ow, .int .i64 F.pc, .int .i64 F.ps, .int .i64 F.pt, .int .i64 F.po] 24 (0, 0)) := (b1.block _ (by simp)).trans (heap_alloc_new _ _)
    have c0 : w1.cell? ⟨w.heap.size, 0, none⟩ = some (.bool F.sv) := (bk_cell k1 0).trans rfl
    have c1 : w1.cell? ⟨w.heap.size, 1, none⟩ = some (.int .i64 F.cw) := (bk_cell k1 1).trans rfl
    have c2 : w1.cell? ⟨w.heap.size, 2, none⟩ = some (.int .i64 F.sw) := (bk_cell k1 2).trans rfl
    have c3 : w1.cell? ⟨w.heap.size, 3, none⟩ = some (.int .i64 F.tw) := (bk_cell k1 3).trans rfl
    have c4 : w1.cell? ⟨w.heap.size, 4, none⟩ = some (.int .i64 F.ow) := (bk_cell k1 4).trans rfl
    have c5 : w1.cell? ⟨w.heap.size, 5, none⟩ = some (.int .i64 F.pc) := (bk_cell k1 5).trans rfl
    have c6 : w1.cell? ⟨w.heap.size, 6, none⟩ = some (.int .i64 F.ps) := (bk_cell k1 6).trans rfl
    have c7 : w1.cell? ⟨w.heap.size, 7, none⟩ = some (.int .i64 F.pt) := (bk_cell k1 7).trans rfl
    have c8 : w1.cell? ⟨w.heap.size, 8, none⟩ = some (.int .i64 F.po) := (bk_cell k1 8).trans rfl
    have H1 : Hid _ := B1
    clear b1 B1 k1
    go_wp2_with (first
      | (go_at_call 22; refine (HH.out.2.1 _).mono ?_; rintro e w2 ⟨g, rfl, P2, b2⟩; have H2 : Hid _ := And.intro P2 (H1.out.trans (b2.mono H1.out.size)); clear P2 b2)
      | (go_at_call 21; refine (HH.out.2.2.1 _ g _ H1.out.size H2.out.1 H2.out.2).mono ?_; rintro e w3 ⟨r, rfl, o3, b3⟩))
    go_ret2
    exact ⟨_, rfl, o3, b3⟩
end Go.Proofs.Ythjakbpcpfmbjaa
