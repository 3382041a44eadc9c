import Derived.Test.YtajachmhppoodaaDoorRsI
import Derived.Test.YtajachmhppoodaaDoorRiE
namespace Go.Proofs.YtajachmhppoodaaDoor
open Go.RowKit
set_option linter.unusedVariables false
set_option linter.unusedSimpArgs false

theorem lit5 (w : World) (x0 x1 x2 x3 x4 : Value) (t : TypeId) : (w.alloc (.cells #[x0, x1, x2, x3, x4] t)).heap[w.heap.size]? = some (.cells #[x0, x1, x2, x3, x4] t (0, 0)) := heap_alloc_new w _
theorem BOwns.lit0B {α : Type} [Inhabited α] (T : TypeId) (K : Nat) (hK : 0 < K) (c : α → Value → List Value) (d : α → List Int) (w : World) (base : Nat) (hb : base ≤ w.heap.size) : BOwns T K c d (w.alloc (.cells #[] T)) base (.slice (some ⟨w.heap.size, 0, none⟩) 0 0) [] :=
  ⟨fun _ => .slice none 0 0, ⟨[], World.ownsRow_lit _ #[] 0 hb (Nat.zero_le _) (by simp), fun j hj => by simp [zl] at hj⟩, fun j hj => by simp at hj, fun i j _ hj => by simp at hj⟩
/-- Ahead of the append: what the round has made so far. -/
structure TailI (g win : Nat) (R : List SRecvOp) (w wr X : World) (k : Nat) (zs : List Value) (ro rv : Value) (D D' : Nat → Prop) (cd : Int) (eb : Bool) (m' : MS) (data : List Int) : Prop where
  blk : X.heap[wr.heap.size]? = some (.cells #[.int .i64 cd, .int .i64 0, .int .i64 0, rv, .bool eb] 55 (0, 0))
  rep : MRep X D' g w.heap.size win m'
  ch : Chg D wr X
  hD : ∀ t, D' t → D t ∨ (wr.heap.size ≤ t ∧ t < X.heap.size)
  obD : ¬ D' wr.heap.size
  orow : X.ownsRow wr.heap.size 5 1 rv data.length (data.map (Value.int .u8))
  hrD : ∀ t, rv.ownBlock = some t → ¬ D' t
  rox : X.ownsRow w.heap.size 55 5 ro k zs
theorem lit5s (w : World) (a b : Addr) (u v : Value) (x0 x1 x2 x3 x4 : Value) (t : TypeId) : (((w.setCell a u).setCell b v).alloc (.cells #[x0, x1, x2, x3, x4] t)).heap[w.heap.size]? = some (.cells #[x0, x1, x2, x3, x4] t (0, 0)) := by
  have h := lit5 ((w.setCell a u).setCell b v) x0 x1 x2 x3 x4 t
  rw [size_setC, size_setC] at h; exact h
theorem size_setC2 (w : World) (a b : Addr) (u v : Value) : ((w.setCell a u).setCell b v).heap.size = w.heap.size := by rw [size_setC, size_setC]
theorem Chg.setOb {S : Nat → Prop} {w w' : World} (h : Chg S w w') (k i : Nat) (u : Value) (hk : w.heap.size ≤ k) : Chg S w (w'.setCell ⟨k, i, none⟩ u) :=
  ⟨h.os, h.tape, h.output, by rw [size_setC]; exact h.size, fun j hj hs => (bk_other (k := j) (g := k) (by omega) i u).trans (h.block j hj hs)⟩
set_option maxRecDepth 20000 in
set_option maxHeartbeats 8000000 in
theorem specLoop (win : Nat) (hw1 : 1 ≤ win) (hw2 : win ≤ 16384) (v : Value) (R : List SRecvOp) (w : World) (row : BRow 5 SRecvOp.c SRecvOp.d w v R) (hn : R.length ≤ 400)
    (hd : ∀ j, j < R.length → (R.getD j default).d.length ≤ 140737488355328) (hof : ∀ j, j < R.length → (R.getD j default).f1 ≤ 9223372036854775807) :
    Calls Tryd.prog 6 #[.int .i64 (win : Int), v] w fun e w' => ∃ r, e = .returned (.tuple #[r, .int .i64 0]) ∧ BOwns 55 5 SRecvObs.c SRecvObs.d w' w.heap.size r (mrun win R R.length).2 ∧ Below w.heap.size w w' := by
  obtain ⟨ao, cp, ev⟩ := row.form
  obtain ⟨n, en⟩ : ∃ n, n = R.length := ⟨_, rfl⟩
  have HH : Hid _ := And.intro row (And.intro hd (And.intro hof en))
  rw [← en] at hn ev ⊢
  subst ev
  clear row hd hof en
  have hnI : (n : Int) ≤ 400 := by omega
  go_enter Tryd.func6, Tryd.ntmps6
  go_wp2_with (go_at_call 24; refine (newM (win : Int) w).mono ?_; rintro e w1 ⟨rfl, b1⟩)
  have B1 : Hid _ := And.intro b1 True.intro
  have hz1 := b1.size
  clear b1
  obtain ⟨g, eg⟩ : ∃ g, g = w1.heap.size := ⟨_, rfl⟩
  have EG : Hid _ := eg
  rw [← eg]
  have hgw : w.heap.size ≤ g := by omega
  have EGW : Hid _ := And.intro eg hz1
  go_loopg [7, 8] n (fun q ro i wr => ∃ k : Nat, k ≤ n ∧ q = n - k ∧ i = .int .i64 (k : Int) ∧ SpI g win R w wr k ro)
  case atStart =>
    have e2 := bk_new2 w1 (.cells #[.int .i64 0, .int .i64 (win : Int), .int .i64 (win : Int), .int .i64 0, .int .i64 0, .int .i64 0, .bool false, .slice none 0 0, .slice none 0 0] 52) (.cells #[] 55)
    have B2 : Below w1.heap.size w1 ((w1.alloc (.cells #[.int .i64 0, .int .i64 (win : Int), .int .i64 (win : Int), .int .i64 0, .int .i64 0, .int .i64 0, .bool false, .slice none 0 0, .slice none 0 0] 52)).alloc (.cells #[] 55)) := ((Below.refl _ _).alloc (Nat.le_refl _) _).alloc (by simp) _
    refine ⟨0, by omega, by omega, rfl, [], fun _ => .slice none 0 0, fun t => t = g, ⟨rfl, ?_, fun j hj => by omega, fun j hj => by omega, fun i j _ hj => by omega, ⟨.slice none 0 0, .slice none 0 0, ?_, ⟨World.ownsRow_nil _ _ _ _, World.ownsRow_nil _ _ _ _, rfl, fun t ht => (by cases ht), fun t ht => (by cases ht), fun t ht => ?_, (by rw [eg]; exact hz1)⟩⟩, fun t ht => ?_, fun j hj => by omega, fun t ht => by rw [ht, eg]; exact hz1, B1.out.1.trans (B2.mono hz1)⟩⟩
    · have := World.ownsRow_lit (e := 55) (size := 5) (w1.alloc (.cells #[.int .i64 0, .int .i64 (win : Int), .int .i64 (win : Int), .int .i64 0, .int .i64 0, .int .i64 0, .bool false, .slice none 0 0, .slice none 0 0] 52)) #[] 0 (base := w.heap.size) (by simp; omega) (Nat.zero_le _) (by simp)
      rw [eg]; simpa using this
    · rw [eg]; exact e2.1
    · rw [ht, eg]; simp; omega
    · simp [Value.ownBlock] at ht; omega
  case round =>
    clear eg hz1
    obtain ⟨k, hk, hq, rfl, zs, U, D, SJ⟩ := hrel
    by_cases hlt : k < n
    · obtain ⟨b, off, cap, ev, hbl, U0, hc, hr⟩ := HH.out.1.at' (by have := HH.out.2.2.2; omega)
      simp only [Value.slice.injEq] at ev
      obtain ⟨rfl, em2, rfl⟩ := ev
      clear em2
      have hck := hc k (by have := HH.out.2.2.2; omega)
      obtain ⟨uk, euk⟩ : ∃ u, u = U0 k := ⟨_, rfl⟩
      have hrk := (hr k (by have := HH.out.2.2.2; omega)).below SJ.bw
      have hrw := hr k (by have := HH.out.2.2.2; omega)
      obtain ⟨o, eo⟩ : ∃ o, o = R.getD k default := ⟨_, rfl⟩
      have hdk := HH.out.2.1 k (by have := HH.out.2.2.2; omega)
      have hfk := HH.out.2.2.1 k (by have := HH.out.2.2.2; omega)
      rw [← euk] at hck hrk hrw
      rw [← eo] at hck hrk hdk hfk hrw
      obtain ⟨ra, rc', er⟩ := own_form SJ.ow
      obtain ⟨ST, eST⟩ : ∃ ST, ST = mstep win (mrun win R k).1 o := ⟨_, rfl⟩
      have hbw := SJ.bw.size
      have hbr : b < wr.heap.size := by omega
      have hI := mrun_inv hw1 hw2 R k (by omega)
      have FA := SJ.rep.facts
      have c0 : wr.cell? ⟨b, off + k * 5, none⟩ = some (.int .i64 o.f0) := (SJ.bw.cell (p := ⟨b, off + (k * 5 + 0), none⟩) hbl).trans (hck 0 (by omega))
      have c1 : wr.cell? ⟨b, off + k * 5 + 1, none⟩ = some (.int .i64 o.f1) := (SJ.bw.cell (p := ⟨b, off + (k * 5 + 1), none⟩) hbl).trans (hck 1 (by omega))
      have c2 : wr.cell? ⟨b, off + k * 5 + 2, none⟩ = some (.int .i64 o.f2) := (SJ.bw.cell (p := ⟨b, off + (k * 5 + 2), none⟩) hbl).trans (hck 2 (by omega))
      have c3 : wr.cell? ⟨b, off + k * 5 + 3, none⟩ = some (uk) := (SJ.bw.cell (p := ⟨b, off + (k * 5 + 3), none⟩) hbl).trans (hck 3 (by omega))
      have c4 : wr.cell? ⟨b, off + k * 5 + 4, none⟩ = some (.bool o.f4) := (SJ.bw.cell (p := ⟨b, off + (k * 5 + 4), none⟩) hbl).trans (hck 4 (by omega))
      have BA : Below wr.heap.size wr (wr.alloc (.cells #[.int .i64 1, .int .i64 0, .int .i64 0, .slice none 0 0, .bool false] 55)) := (Below.refl _ _).alloc (Nat.le_refl _) _
      have hobD : ¬ D wr.heap.size := fun e => by have := FA.2.2.2.2 _ e; omega
      have hXb : ∀ (b' of l cp' : Nat), uk = .slice (some ⟨b', of, none⟩) l cp' → 0 < o.d.length → ¬ D b' := fun b' of l cp' he h0 e => by
        obtain ⟨b2, o2, c2, e2, hb2, _⟩ := hrw.at h0
        rw [e2] at he
        simp only [Value.slice.injEq, Option.some.injEq, Addr.mk.injEq] at he
        have := SJ.db b' e
        omega
      obtain ⟨ua, uc, eu⟩ := hrk.form
      obtain ⟨un, eun⟩ : ∃ un, un = o.d.length := ⟨_, rfl⟩
      rw [← eun] at eu
      have hrow1 := hrk.below BA
      have rep1 := SJ.rep.below BA
      have e5 : (R.getD k default) = o := eo.symm
      have H4 : Hid _ := And.intro SJ (And.intro eST (And.intro BA (And.intro hobD (And.intro hXb (And.intro hrow1 (And.intro rep1 (And.intro hdk (And.intro hfk (And.intro hI e5)))))))))
      clear SJ eST BA hobD hXb hrow1 rep1 hdk hfk hck hrk hrw hc hr euk eo eun hI FA e5
      have hobA : (wr.alloc (.cells #[.int .i64 1, .int .i64 0, .int .i64 0, .slice none 0 0, .bool false] 55)).heap[wr.heap.size]? = some (.cells #[.int .i64 1, .int .i64 0, .int .i64 0, .slice none 0 0, .bool false] 55 (0, 0)) := lit5 wr _ _ _ _ _ _
      subst er
      obtain ⟨x0, x1, x2, x3, x4⟩ := o
      subst eu
      dsimp only at *
      by_cases k1 : x0 = 1
      · subst k1
        have mk : ST = ((mdata (mrun win R k).1 x1 x3 x4).1, ⟨(mdata (mrun win R k).1 x1 x3 x4).2, (mdata (mrun win R k).1 x1 x3 x4).1.st, (mdata (mrun win R k).1 x1 x3 x4).1.told, [], false⟩) := by rw [H4.out.2.1]; unfold mstep; dsimp only; rw [if_pos rfl]
        have bd : Below wr.heap.size wr (wr.alloc (.cells #[.int .i64 1, .int .i64 0, .int .i64 0, .slice none 0 0, .bool false] 55)).drew := ⟨rfl, rfl, rfl, H4.out.2.2.1.size, H4.out.2.2.1.block⟩
        have CR := takeM g w.heap.size win k (mrun win R k).1 x1 _ x3 x4 D (wr.alloc (.cells #[.int .i64 1, .int .i64 0, .int .i64 0, .slice none 0 0, .bool false] 55)).drew H4.out.2.2.2.2.2.2.2.2.2.1 (by omega) hw2 (H4.out.1.rep.below bd) (H4.out.2.2.2.2.2.1.drewN 1) H4.out.2.2.2.2.2.2.2.1 H4.out.2.2.2.2.2.2.2.2.1 H4.out.2.2.2.2.1 (by rw [size_drew]; simp; omega)
        obtain ⟨cd, ecd⟩ : ∃ c : Int, c = (mdata (mrun win R k).1 x1 x3 x4).2 := ⟨_, rfl⟩
        obtain ⟨eb, eeb⟩ : ∃ c : Bool, c = false := ⟨_, rfl⟩
        rw [← ecd] at CR mk
        have eF : ST.2.f0 = cd ∧ ST.2.f1 = (ST.1.st : Int) ∧ ST.2.f2 = ST.1.told ∧ ST.2.f4 = eb := by rw [mk, eeb]; exact ⟨rfl, rfl, rfl, rfl⟩
        have HC : Hid _ := And.intro CR mk
        have e1 : (wr.alloc (.cells #[.int .i64 1, .int .i64 0, .int .i64 0, .slice none 0 0, .bool false] 55)).drew.cell? ⟨b, off + k * 5 + 1, none⟩ = some (.int .i64 x1) := (bd.cell (p := ⟨b, off + (k * 5 + 1), none⟩) hbr).trans c1
        have e3 : (wr.alloc (.cells #[.int .i64 1, .int .i64 0, .int .i64 0, .slice none 0 0, .bool false] 55)).drew.cell? ⟨b, off + k * 5 + 3, none⟩ = some (.slice ua un uc) := (bd.cell (p := ⟨b, off + (k * 5 + 3), none⟩) hbr).trans c3
        have e4 : (wr.alloc (.cells #[.int .i64 1, .int .i64 0, .int .i64 0, .slice none 0 0, .bool false] 55)).drew.cell? ⟨b, off + k * 5 + 4, none⟩ = some (.bool x4) := (bd.cell (p := ⟨b, off + (k * 5 + 4), none⟩) hbr).trans c4
        clear CR mk ecd bd
        go_upto_region 13 with fail
        go_region_with (go_at_call 25; refine HC.out.1.mono ?_; rintro e w2 ⟨rfl, r2, c2⟩; have hoA : wr.heap.size < (wr.alloc (.cells #[.int .i64 1, .int .i64 0, .int .i64 0, .slice none 0 0, .bool false] 55)).drew.heap.size := (by rw [size_drew]; simp); have ob2 := (c2.block wr.heap.size hoA H4.out.2.2.2.1).trans hobA; have y0 : w2.cell? ⟨wr.heap.size, 0, none⟩ = some (.int .i64 1) := (bk_cell ob2 0).trans rfl; have q0 : w2.frozen? ⟨wr.heap.size, 0, none⟩ = false := bk_free ob2 0; have ho2 : wr.heap.size < w2.heap.size := (Array.getElem?_eq_some_iff.1 ob2).1; have H7 : Hid _ := And.intro r2 (And.intro c2 ob2); clear r2 c2 ob2)
        all_goals
          obtain ⟨r2, c2, ob2⟩ := H7.out
          have obD : ¬ DU D (wr.alloc (.cells #[.int .i64 1, .int .i64 0, .int .i64 0, .slice none 0 0, .bool false] 55)).drew w2 wr.heap.size := fun e => e.elim H4.out.2.2.2.1 (fun x => by have := x.1; rw [size_drew] at this; simp at this; omega)
          obtain ⟨D', eD'⟩ : ∃ D', D' = DU D (wr.alloc (.cells #[.int .i64 1, .int .i64 0, .int .i64 0, .slice none 0 0, .bool false] 55)).drew w2 := ⟨_, rfl⟩
          have TI : TailI g win R w wr (w2.setCell ⟨wr.heap.size, 0, none⟩ (.int .i64 cd)) k zs (.slice ra k rc') (.slice none 0 0) D D' cd eb ST.1 ST.2.d := by
            rw [HC.out.2, eeb, eD']
            refine ⟨bk_set ob2 0 _, r2.chg (S := (· = wr.heap.size)) ((chg_of_eq (S := (· = wr.heap.size)) w2).set' wr.heap.size 0 _ rfl) (fun t ht e => obD (by have e' : t = wr.heap.size := e; rw [← e']; exact ht)), ((Chg.of_below H4.out.2.2.1).drewD1.trans c2).setOb wr.heap.size 0 _ (Nat.le_refl _), fun t ht => ht.imp id (fun x => ⟨by have := x.1; rw [size_drew] at this; simp at this; omega, by rw [size_setC]; exact x.2⟩), obD, World.ownsRow_nil _ _ _ _, fun t ht => (by cases ht), (Only.setCell (w := w2) ⟨wr.heap.size, 0, none⟩ _).owns (ownsChg c2 (drewOwns (alloc_owns H4.out.1.ow _)) H4.out.1.dr) (fun t ht e => by have h2 := Option.some.inj e; have := (H4.out.1.ow.lt t ht).2; simp at h2; omega)⟩
          have HTI : Hid _ := TI
          clear TI r2 c2 ob2 eD' obD e1 e3 e4
          go_upto_region 21 with fail
          obtain ⟨X, eX⟩ : ∃ X, X = w2.setCell ⟨wr.heap.size, 0, none⟩ (.int .i64 cd) := ⟨_, rfl⟩
          have TI := HTI.out
          rw [← eX] at TI
          rw [← eX]
          clear eX HTI y0 q0 eeb
          obtain ⟨st, est⟩ : ∃ s : Int, s = (ST.1.st : Int) := ⟨_, rfl⟩
          obtain ⟨td, etd⟩ : ∃ t : Int, t = ST.1.told := ⟨_, rfl⟩
          have F := TI.rep.facts
          have g0 : X.cell? ⟨g, 0, none⟩ = some (.int .i64 st) := by rw [est]; exact F.1
          have g2 : X.cell? ⟨g, 2, none⟩ = some (.int .i64 td) := by rw [etd]; exact F.2.1
          have z0 : X.cell? ⟨wr.heap.size, 0, none⟩ = some (.int .i64 cd) := (bk_cell TI.blk 0).trans rfl
          have z1 : X.cell? ⟨wr.heap.size, 1, none⟩ = some (.int .i64 0) := (bk_cell TI.blk 1).trans rfl
          have z2 : X.cell? ⟨wr.heap.size, 2, none⟩ = some (.int .i64 0) := (bk_cell TI.blk 2).trans rfl
          have z3 : X.cell? ⟨wr.heap.size, 3, none⟩ = some (.slice none 0 0) := (bk_cell TI.blk 3).trans rfl
          have z4 : X.cell? ⟨wr.heap.size, 4, none⟩ = some (.bool eb) := (bk_cell TI.blk 4).trans rfl
          have fr1 : X.frozen? ⟨wr.heap.size, 1, none⟩ = false := bk_free TI.blk 1
          have fr2 : X.frozen? ⟨wr.heap.size, 2, none⟩ = false := bk_free TI.blk 2
          have hgo : g ≠ wr.heap.size := fun e => TI.obD (by rw [← e]; exact F.2.2.2.1)
          have hgX : g < X.heap.size := F.2.2.1
          have hoX : wr.heap.size < X.heap.size := (Array.getElem?_eq_some_iff.1 TI.blk).1
          have hro : ∀ t, (Value.slice ra k rc').ownBlock = some t → t ≠ wr.heap.size := fun t ht e => by have := (H4.out.1.ow.lt t ht).2; omega
          have roW : ((X.setCell ⟨wr.heap.size, 1, none⟩ (.int .i64 st)).setCell ⟨wr.heap.size, 2, none⟩ (.int .i64 td)).ownsRow w.heap.size 55 5 (.slice ra k rc') k zs := (Only.setCell (w := X.setCell ⟨wr.heap.size, 1, none⟩ (.int .i64 st)) ⟨wr.heap.size, 2, none⟩ (.int .i64 td)).owns ((Only.setCell (w := X) ⟨wr.heap.size, 1, none⟩ (.int .i64 st)).owns TI.rox (fun t ht e => hro t ht (Option.some.inj e))) (fun t ht e => hro t ht (Option.some.inj e))
          have hkb : k + 1 ≤ 1099511627776 := by omega
          have blW : ∀ o : Obj, w.heap.size ≤ (((X.setCell ⟨wr.heap.size, 1, none⟩ (.int .i64 st)).setCell ⟨wr.heap.size, 2, none⟩ (.int .i64 td)).alloc o).heap.size := fun o => by simp [size_setC2]; omega
          have rX : MRep ((X.setCell ⟨wr.heap.size, 1, none⟩ (.int .i64 st)).setCell ⟨wr.heap.size, 2, none⟩ (.int .i64 td)) (D') g w.heap.size win ST.1 := TI.rep.chg (S := (· = wr.heap.size)) (((chg_of_eq (S := (· = wr.heap.size)) X).set' wr.heap.size 1 _ rfl).set' wr.heap.size 2 _ rfl) (fun t ht e => TI.obD (by have e' : t = wr.heap.size := e; rw [← e']; exact ht))
          have cX : Chg D wr ((X.setCell ⟨wr.heap.size, 1, none⟩ (.int .i64 st)).setCell ⟨wr.heap.size, 2, none⟩ (.int .i64 td)) := (TI.ch.setOb wr.heap.size 1 _ (Nat.le_refl _)).setOb wr.heap.size 2 _ (Nat.le_refl _)
          have oX : ((X.setCell ⟨wr.heap.size, 1, none⟩ (.int .i64 st)).setCell ⟨wr.heap.size, 2, none⟩ (.int .i64 td)).ownsRow wr.heap.size 5 1 (.slice none 0 0) ST.2.d.length (ST.2.d.map (Value.int .u8)) := (Only.setCell (w := X.setCell ⟨wr.heap.size, 1, none⟩ (.int .i64 st)) ⟨wr.heap.size, 2, none⟩ (.int .i64 td)).owns ((Only.setCell (w := X) ⟨wr.heap.size, 1, none⟩ (.int .i64 st)).owns TI.orow (fun t ht e => own_gt TI.orow TI.blk (by decide) t ht (Option.some.inj e))) (fun t ht e => own_gt TI.orow TI.blk (by decide) t ht (Option.some.inj e))
          have eC : ST.2.c (.slice none 0 0) = [.int .i64 cd, .int .i64 st, .int .i64 td, .slice none 0 0, .bool eb] := by unfold SRecvObs.c; rw [eF.1, eF.2.1, eF.2.2.1, eF.2.2.2, est, etd]
          have H5 : Hid _ := And.intro TI (And.intro roW (And.intro blW (And.intro rX (And.intro cX (And.intro oX eC)))))
          clear TI roW blW rX cX oX eC est etd F eF hobA
          go_wp2_with (at_builtin; refine wpList_append5 rfl (.tmp 91) (.tmp 93) rfl w.heap.size (.slice ra k rc') k zs rfl (alloc_owns H5.out.2.1 _) X.heap.size (.int .i64 cd) (.int .i64 st) (.int .i64 td) (.slice none 0 0) (.bool eb) ⟨rfl, rfl, rfl, rfl, rfl⟩ rfl (lit5s X _ _ _ _ _ _ _ _ _ _) hkb (H5.out.2.2.1 _) ?_; intro ro' w6 o6 g6 a6; obtain ⟨ra6, rc6, e6⟩ := own_form o6; have C6 := (alloc_chg _ _ : Chg (fun t => some t = (Value.slice ra k rc').ownBlock) ((X.setCell ⟨wr.heap.size, 1, none⟩ (.int .i64 st)).setCell ⟨wr.heap.size, 2, none⟩ (.int .i64 td)) _).trans (grown_chg g6); have H6 : Hid _ := And.intro o6 (And.intro C6 a6); subst e6; clear o6 g6 a6 C6)
          go_roundg (n - (k + 1))
          case measure => omega
          case rel =>
            obtain ⟨o6, C6, a6⟩ := H6.out
            rw [← H5.out.2.2.2.2.2.2] at o6
            have TI := H5.out.1
            refine ⟨k + 1, by omega, rfl, by go_num, _, _, _, SpJ.next H4.out.1 ST (by rw [H4.out.2.2.2.2.2.2.2.2.2.2]; exact H4.out.2.1) H5.out.2.2.2.2.1 (fun t ht => (TI.hD t ht).imp id (fun x => ⟨x.1, by rw [size_setC2]; exact x.2⟩)) H5.out.2.2.2.1 H5.out.2.2.2.2.2.1 TI.hrD C6 o6 (a6.imp id (fun e => ⟨_, e, by simp [size_setC2]⟩))⟩
          
      by_cases k2 : x0 = 2
      · subst k2
        have mk : ST = ((mreset (mrun win R k).1 x2).1, ⟨(mreset (mrun win R k).1 x2).2, (mreset (mrun win R k).1 x2).1.st, (mreset (mrun win R k).1 x2).1.told, [], false⟩) := by rw [H4.out.2.1]; unfold mstep; dsimp only; rw [if_neg k1, if_pos rfl]
        have CR := resetM g w.heap.size win (mrun win R k).1 x2 D _ H4.out.2.2.2.2.2.2.1
        obtain ⟨cd, ecd⟩ : ∃ c : Int, c = (mreset (mrun win R k).1 x2).2 := ⟨_, rfl⟩
        obtain ⟨eb, eeb⟩ : ∃ c : Bool, c = false := ⟨_, rfl⟩
        rw [← ecd] at CR mk
        have eF : ST.2.f0 = cd ∧ ST.2.f1 = (ST.1.st : Int) ∧ ST.2.f2 = ST.1.told ∧ ST.2.f4 = eb := by rw [mk, eeb]; exact ⟨rfl, rfl, rfl, rfl⟩
        have HC : Hid _ := And.intro CR mk
        clear CR mk ecd k1
        go_upto_region 15 with fail
        go_wp2_with fail
        go_at_call 26
        refine HC.out.1.mono ?_
        rintro e w2 ⟨rfl, r2, c2⟩
        have hoA : wr.heap.size < (wr.alloc (.cells #[.int .i64 1, .int .i64 0, .int .i64 0, .slice none 0 0, .bool false] 55)).heap.size := by simp
        have ob2 := (c2.block wr.heap.size hoA H4.out.2.2.2.1).trans hobA
        have y0 : w2.cell? ⟨wr.heap.size, 0, none⟩ = some (.int .i64 1) := (bk_cell ob2 0).trans rfl
        have q0 : w2.frozen? ⟨wr.heap.size, 0, none⟩ = false := bk_free ob2 0
        have ho2 : wr.heap.size < w2.heap.size := (Array.getElem?_eq_some_iff.1 ob2).1
        have TI : TailI g win R w wr (w2.setCell ⟨wr.heap.size, 0, none⟩ (.int .i64 cd)) k zs (.slice ra k rc') (.slice none 0 0) D D cd eb ST.1 ST.2.d := by
          rw [HC.out.2, eeb]
          exact ⟨bk_set ob2 0 _, r2.chg (S := (· = wr.heap.size)) ((chg_of_eq (S := (· = wr.heap.size)) w2).set' wr.heap.size 0 _ rfl) (fun t ht e => H4.out.2.2.2.1 (by have e' : t = wr.heap.size := e; rw [← e']; exact ht)), ((Chg.of_below H4.out.2.2.1).trans c2).setOb wr.heap.size 0 _ (Nat.le_refl _), fun t ht => Or.inl ht, H4.out.2.2.2.1, World.ownsRow_nil _ _ _ _, fun t ht => (by cases ht), (Only.setCell (w := w2) ⟨wr.heap.size, 0, none⟩ _).owns (ownsChg c2 (alloc_owns H4.out.1.ow _) H4.out.1.dr) (fun t ht e => by have h2 := Option.some.inj e; have := (H4.out.1.ow.lt t ht).2; simp at h2; omega)⟩
        have HTI : Hid _ := TI
        clear TI r2 c2 ob2 eeb
        go_upto_region 21 with fail
        obtain ⟨X, eX⟩ : ∃ X, X = w2.setCell ⟨wr.heap.size, 0, none⟩ (.int .i64 cd) := ⟨_, rfl⟩
        have TI := HTI.out
        rw [← eX] at TI
        rw [← eX]
        clear eX HTI y0 q0
        obtain ⟨st, est⟩ : ∃ s : Int, s = (ST.1.st : Int) := ⟨_, rfl⟩
        obtain ⟨td, etd⟩ : ∃ t : Int, t = ST.1.told := ⟨_, rfl⟩
        have F := TI.rep.facts
        have g0 : X.cell? ⟨g, 0, none⟩ = some (.int .i64 st) := by rw [est]; exact F.1
        have g2 : X.cell? ⟨g, 2, none⟩ = some (.int .i64 td) := by rw [etd]; exact F.2.1
        have z0 : X.cell? ⟨wr.heap.size, 0, none⟩ = some (.int .i64 cd) := (bk_cell TI.blk 0).trans rfl
        have z1 : X.cell? ⟨wr.heap.size, 1, none⟩ = some (.int .i64 0) := (bk_cell TI.blk 1).trans rfl
        have z2 : X.cell? ⟨wr.heap.size, 2, none⟩ = some (.int .i64 0) := (bk_cell TI.blk 2).trans rfl
        have z3 : X.cell? ⟨wr.heap.size, 3, none⟩ = some (.slice none 0 0) := (bk_cell TI.blk 3).trans rfl
        have z4 : X.cell? ⟨wr.heap.size, 4, none⟩ = some (.bool eb) := (bk_cell TI.blk 4).trans rfl
        have fr1 : X.frozen? ⟨wr.heap.size, 1, none⟩ = false := bk_free TI.blk 1
        have fr2 : X.frozen? ⟨wr.heap.size, 2, none⟩ = false := bk_free TI.blk 2
        have hgo : g ≠ wr.heap.size := fun e => TI.obD (by rw [← e]; exact F.2.2.2.1)
        have hgX : g < X.heap.size := F.2.2.1
        have hoX : wr.heap.size < X.heap.size := (Array.getElem?_eq_some_iff.1 TI.blk).1
        have hro : ∀ t, (Value.slice ra k rc').ownBlock = some t → t ≠ wr.heap.size := fun t ht e => by have := (H4.out.1.ow.lt t ht).2; omega
        have roW : ((X.setCell ⟨wr.heap.size, 1, none⟩ (.int .i64 st)).setCell ⟨wr.heap.size, 2, none⟩ (.int .i64 td)).ownsRow w.heap.size 55 5 (.slice ra k rc') k zs := (Only.setCell (w := X.setCell ⟨wr.heap.size, 1, none⟩ (.int .i64 st)) ⟨wr.heap.size, 2, none⟩ (.int .i64 td)).owns ((Only.setCell (w := X) ⟨wr.heap.size, 1, none⟩ (.int .i64 st)).owns TI.rox (fun t ht e => hro t ht (Option.some.inj e))) (fun t ht e => hro t ht (Option.some.inj e))
        have hkb : k + 1 ≤ 1099511627776 := by omega
        have blW : ∀ o : Obj, w.heap.size ≤ (((X.setCell ⟨wr.heap.size, 1, none⟩ (.int .i64 st)).setCell ⟨wr.heap.size, 2, none⟩ (.int .i64 td)).alloc o).heap.size := fun o => by simp [size_setC2]; omega
        have rX : MRep ((X.setCell ⟨wr.heap.size, 1, none⟩ (.int .i64 st)).setCell ⟨wr.heap.size, 2, none⟩ (.int .i64 td)) (D) g w.heap.size win ST.1 := TI.rep.chg (S := (· = wr.heap.size)) (((chg_of_eq (S := (· = wr.heap.size)) X).set' wr.heap.size 1 _ rfl).set' wr.heap.size 2 _ rfl) (fun t ht e => TI.obD (by have e' : t = wr.heap.size := e; rw [← e']; exact ht))
        have cX : Chg D wr ((X.setCell ⟨wr.heap.size, 1, none⟩ (.int .i64 st)).setCell ⟨wr.heap.size, 2, none⟩ (.int .i64 td)) := (TI.ch.setOb wr.heap.size 1 _ (Nat.le_refl _)).setOb wr.heap.size 2 _ (Nat.le_refl _)
        have oX : ((X.setCell ⟨wr.heap.size, 1, none⟩ (.int .i64 st)).setCell ⟨wr.heap.size, 2, none⟩ (.int .i64 td)).ownsRow wr.heap.size 5 1 (.slice none 0 0) ST.2.d.length (ST.2.d.map (Value.int .u8)) := (Only.setCell (w := X.setCell ⟨wr.heap.size, 1, none⟩ (.int .i64 st)) ⟨wr.heap.size, 2, none⟩ (.int .i64 td)).owns ((Only.setCell (w := X) ⟨wr.heap.size, 1, none⟩ (.int .i64 st)).owns TI.orow (fun t ht e => own_gt TI.orow TI.blk (by decide) t ht (Option.some.inj e))) (fun t ht e => own_gt TI.orow TI.blk (by decide) t ht (Option.some.inj e))
        have eC : ST.2.c (.slice none 0 0) = [.int .i64 cd, .int .i64 st, .int .i64 td, .slice none 0 0, .bool eb] := by unfold SRecvObs.c; rw [eF.1, eF.2.1, eF.2.2.1, eF.2.2.2, est, etd]
        have H5 : Hid _ := And.intro TI (And.intro roW (And.intro blW (And.intro rX (And.intro cX (And.intro oX eC)))))
        clear TI roW blW rX cX oX eC est etd F eF hobA
        go_wp2_with (at_builtin; refine wpList_append5 rfl (.tmp 91) (.tmp 93) rfl w.heap.size (.slice ra k rc') k zs rfl (alloc_owns H5.out.2.1 _) X.heap.size (.int .i64 cd) (.int .i64 st) (.int .i64 td) (.slice none 0 0) (.bool eb) ⟨rfl, rfl, rfl, rfl, rfl⟩ rfl (lit5s X _ _ _ _ _ _ _ _ _ _) hkb (H5.out.2.2.1 _) ?_; intro ro' w6 o6 g6 a6; obtain ⟨ra6, rc6, e6⟩ := own_form o6; have C6 := (alloc_chg _ _ : Chg (fun t => some t = (Value.slice ra k rc').ownBlock) ((X.setCell ⟨wr.heap.size, 1, none⟩ (.int .i64 st)).setCell ⟨wr.heap.size, 2, none⟩ (.int .i64 td)) _).trans (grown_chg g6); have H6 : Hid _ := And.intro o6 (And.intro C6 a6); subst e6; clear o6 g6 a6 C6)
        go_roundg (n - (k + 1))
        case measure => omega
        case rel =>
          obtain ⟨o6, C6, a6⟩ := H6.out
          rw [← H5.out.2.2.2.2.2.2] at o6
          have TI := H5.out.1
          refine ⟨k + 1, by omega, rfl, by go_num, _, _, _, SpJ.next H4.out.1 ST (by rw [H4.out.2.2.2.2.2.2.2.2.2.2]; exact H4.out.2.1) H5.out.2.2.2.2.1 (fun t ht => (TI.hD t ht).imp id (fun x => ⟨x.1, by rw [size_setC2]; exact x.2⟩)) H5.out.2.2.2.1 H5.out.2.2.2.2.2.1 TI.hrD C6 o6 (a6.imp id (fun e => ⟨_, e, by simp [size_setC2]⟩))⟩
      by_cases k3 : x0 = 3
      · subst k3
        have mk : ST = ((mread win (mrun win R k).1 x2).1, ⟨(mread win (mrun win R k).1 x2).2.2, (mread win (mrun win R k).1 x2).1.st, (mread win (mrun win R k).1 x2).1.told, (mread win (mrun win R k).1 x2).2.1, decide ((mread win (mrun win R k).1 x2).2.2 = 0 ∧ (mread win (mrun win R k).1 x2).1.st = 3)⟩) := by rw [H4.out.2.1]; unfold mstep; dsimp only; rw [if_neg k1, if_neg k2, if_pos rfl]
        have CR := getM g w.heap.size win k (mrun win R k).1 x2 D _ H4.out.2.2.2.2.2.2.2.2.2.1 (by omega) hw1 hw2 H4.out.2.2.2.2.2.2.1
        obtain ⟨MR, eMR⟩ : ∃ MR, MR = mread win (mrun win R k).1 x2 := ⟨_, rfl⟩
        rw [← eMR] at CR mk
        obtain ⟨cd, ecd⟩ : ∃ c : Int, c = MR.2.2 := ⟨_, rfl⟩
        obtain ⟨eb, eeb⟩ : ∃ c : Bool, c = decide (MR.2.2 = 0 ∧ MR.1.st = 3) := ⟨_, rfl⟩
        rw [← eeb, ← ecd] at CR mk
        have eF : ST.2.f0 = cd ∧ ST.2.f1 = (ST.1.st : Int) ∧ ST.2.f2 = ST.1.told ∧ ST.2.f4 = eb := by rw [mk]; exact ⟨rfl, rfl, rfl, rfl⟩
        have HC : Hid _ := And.intro CR mk
        clear CR mk ecd eeb eMR k1 k2
        go_upto_region 17 with fail
        go_wp2_with fail
        go_at_call 27
        refine HC.out.1.mono ?_
        rintro e w2 ⟨r, rfl, or2, r2, c2⟩
        obtain ⟨rva, rvc, erv⟩ := own_form or2
        obtain ⟨rvn, ervn⟩ : ∃ rn, rn = MR.2.1.length := ⟨_, rfl⟩
        rw [← ervn] at erv
        have hoA : wr.heap.size < (wr.alloc (.cells #[.int .i64 1, .int .i64 0, .int .i64 0, .slice none 0 0, .bool false] 55)).heap.size := by simp
        have ob2 := (c2.block wr.heap.size hoA H4.out.2.2.2.1).trans hobA
        have y0 : w2.cell? ⟨wr.heap.size, 0, none⟩ = some (.int .i64 1) := (bk_cell ob2 0).trans rfl
        have y3 : w2.cell? ⟨wr.heap.size, 3, none⟩ = some (.slice none 0 0) := (bk_cell ob2 3).trans rfl
        have y4 : w2.cell? ⟨wr.heap.size, 4, none⟩ = some (.bool false) := (bk_cell ob2 4).trans rfl
        have q0 : w2.frozen? ⟨wr.heap.size, 0, none⟩ = false := bk_free ob2 0
        have q3 : w2.frozen? ⟨wr.heap.size, 3, none⟩ = false := bk_free ob2 3
        have q4 : w2.frozen? ⟨wr.heap.size, 4, none⟩ = false := bk_free ob2 4
        have ho2 : wr.heap.size < w2.heap.size := (Array.getElem?_eq_some_iff.1 ob2).1
        have hrob : ∀ t, r.ownBlock = some t → wr.heap.size < t := fun t ht => by have := (or2.lt t ht).1; simp at this; omega
        have TI : TailI g win R w wr (((w2.setCell ⟨wr.heap.size, 3, none⟩ r).setCell ⟨wr.heap.size, 4, none⟩ (.bool eb)).setCell ⟨wr.heap.size, 0, none⟩ (.int .i64 cd)) k zs (.slice ra k rc') r D D cd eb ST.1 ST.2.d := by
          rw [HC.out.2]
          refine ⟨bk_set (bk_set (bk_set ob2 3 _) 4 _) 0 _, r2.chg (S := (· = wr.heap.size)) ((((chg_of_eq (S := (· = wr.heap.size)) w2).set' wr.heap.size 3 _ rfl).set' wr.heap.size 4 _ rfl).set' wr.heap.size 0 _ rfl) (fun t ht e => H4.out.2.2.2.1 (by have e' : t = wr.heap.size := e; rw [← e']; exact ht)), ((((Chg.of_below H4.out.2.2.1).trans c2).setOb wr.heap.size 3 _ (Nat.le_refl _)).setOb wr.heap.size 4 _ (Nat.le_refl _)).setOb wr.heap.size 0 _ (Nat.le_refl _), fun t ht => Or.inl ht, H4.out.2.2.2.1, ?_, fun t ht e => ?_, ?_⟩
          · have m1 := owns_mono or2 (base' := wr.heap.size) (by simp)
            exact (Only.setCell (w := (w2.setCell ⟨wr.heap.size, 3, none⟩ r).setCell ⟨wr.heap.size, 4, none⟩ (.bool eb)) ⟨wr.heap.size, 0, none⟩ (.int .i64 cd)).owns ((Only.setCell (w := w2.setCell ⟨wr.heap.size, 3, none⟩ r) ⟨wr.heap.size, 4, none⟩ (.bool eb)).owns ((Only.setCell (w := w2) ⟨wr.heap.size, 3, none⟩ r).owns m1 (fun t ht e => by have h2 := Option.some.inj e; have := hrob t ht; simp at h2; omega)) (fun t ht e => by have h2 := Option.some.inj e; have := hrob t ht; simp at h2; omega)) (fun t ht e => by have h2 := Option.some.inj e; have := hrob t ht; simp at h2; omega)
          · have h1 := H4.out.2.2.2.2.2.2.1.facts.2.2.2.2 t e
            have h2 := (or2.lt t ht).1
            omega
          · have m1 : w2.ownsRow w.heap.size 55 5 (.slice ra k rc') k zs := ownsChg c2 (alloc_owns H4.out.1.ow _) H4.out.1.dr
            have hne : ∀ t, (Value.slice ra k rc').ownBlock = some t → t ≠ wr.heap.size := fun t ht e => by have := (H4.out.1.ow.lt t ht).2; omega
            exact (Only.setCell (w := (w2.setCell ⟨wr.heap.size, 3, none⟩ r).setCell ⟨wr.heap.size, 4, none⟩ (.bool eb)) ⟨wr.heap.size, 0, none⟩ (.int .i64 cd)).owns ((Only.setCell (w := w2.setCell ⟨wr.heap.size, 3, none⟩ r) ⟨wr.heap.size, 4, none⟩ (.bool eb)).owns ((Only.setCell (w := w2) ⟨wr.heap.size, 3, none⟩ r).owns m1 (fun t ht e => hne t ht (Option.some.inj e))) (fun t ht e => hne t ht (Option.some.inj e))) (fun t ht e => hne t ht (Option.some.inj e))
        have HTI : Hid _ := TI
        clear TI r2 c2 ob2 or2 hrob ervn
        subst erv
        go_upto_region 21 with fail
        obtain ⟨X, eX⟩ : ∃ X, X = ((w2.setCell ⟨wr.heap.size, 3, none⟩ (.slice rva rvn rvc)).setCell ⟨wr.heap.size, 4, none⟩ (.bool eb)).setCell ⟨wr.heap.size, 0, none⟩ (.int .i64 cd) := ⟨_, rfl⟩
        have TI := HTI.out
        rw [← eX] at TI
        rw [← eX]
        clear eX HTI y0 y3 y4 q0 q3 q4
        obtain ⟨st, est⟩ : ∃ s : Int, s = (ST.1.st : Int) := ⟨_, rfl⟩
        obtain ⟨td, etd⟩ : ∃ t : Int, t = ST.1.told := ⟨_, rfl⟩
        have F := TI.rep.facts
        have g0 : X.cell? ⟨g, 0, none⟩ = some (.int .i64 st) := by rw [est]; exact F.1
        have g2 : X.cell? ⟨g, 2, none⟩ = some (.int .i64 td) := by rw [etd]; exact F.2.1
        have z0 : X.cell? ⟨wr.heap.size, 0, none⟩ = some (.int .i64 cd) := (bk_cell TI.blk 0).trans rfl
        have z1 : X.cell? ⟨wr.heap.size, 1, none⟩ = some (.int .i64 0) := (bk_cell TI.blk 1).trans rfl
        have z2 : X.cell? ⟨wr.heap.size, 2, none⟩ = some (.int .i64 0) := (bk_cell TI.blk 2).trans rfl
        have z3 : X.cell? ⟨wr.heap.size, 3, none⟩ = some (.slice rva rvn rvc) := (bk_cell TI.blk 3).trans rfl
        have z4 : X.cell? ⟨wr.heap.size, 4, none⟩ = some (.bool eb) := (bk_cell TI.blk 4).trans rfl
        have fr1 : X.frozen? ⟨wr.heap.size, 1, none⟩ = false := bk_free TI.blk 1
        have fr2 : X.frozen? ⟨wr.heap.size, 2, none⟩ = false := bk_free TI.blk 2
        have hgo : g ≠ wr.heap.size := fun e => TI.obD (by rw [← e]; exact F.2.2.2.1)
        have hgX : g < X.heap.size := F.2.2.1
        have hoX : wr.heap.size < X.heap.size := (Array.getElem?_eq_some_iff.1 TI.blk).1
        have hro : ∀ t, (Value.slice ra k rc').ownBlock = some t → t ≠ wr.heap.size := fun t ht e => by have := (H4.out.1.ow.lt t ht).2; omega
        have roW : ((X.setCell ⟨wr.heap.size, 1, none⟩ (.int .i64 st)).setCell ⟨wr.heap.size, 2, none⟩ (.int .i64 td)).ownsRow w.heap.size 55 5 (.slice ra k rc') k zs := (Only.setCell (w := X.setCell ⟨wr.heap.size, 1, none⟩ (.int .i64 st)) ⟨wr.heap.size, 2, none⟩ (.int .i64 td)).owns ((Only.setCell (w := X) ⟨wr.heap.size, 1, none⟩ (.int .i64 st)).owns TI.rox (fun t ht e => hro t ht (Option.some.inj e))) (fun t ht e => hro t ht (Option.some.inj e))
        have hkb : k + 1 ≤ 1099511627776 := by omega
        have blW : ∀ o : Obj, w.heap.size ≤ (((X.setCell ⟨wr.heap.size, 1, none⟩ (.int .i64 st)).setCell ⟨wr.heap.size, 2, none⟩ (.int .i64 td)).alloc o).heap.size := fun o => by simp [size_setC2]; omega
        have rX : MRep ((X.setCell ⟨wr.heap.size, 1, none⟩ (.int .i64 st)).setCell ⟨wr.heap.size, 2, none⟩ (.int .i64 td)) (D) g w.heap.size win ST.1 := TI.rep.chg (S := (· = wr.heap.size)) (((chg_of_eq (S := (· = wr.heap.size)) X).set' wr.heap.size 1 _ rfl).set' wr.heap.size 2 _ rfl) (fun t ht e => TI.obD (by have e' : t = wr.heap.size := e; rw [← e']; exact ht))
        have cX : Chg D wr ((X.setCell ⟨wr.heap.size, 1, none⟩ (.int .i64 st)).setCell ⟨wr.heap.size, 2, none⟩ (.int .i64 td)) := (TI.ch.setOb wr.heap.size 1 _ (Nat.le_refl _)).setOb wr.heap.size 2 _ (Nat.le_refl _)
        have oX : ((X.setCell ⟨wr.heap.size, 1, none⟩ (.int .i64 st)).setCell ⟨wr.heap.size, 2, none⟩ (.int .i64 td)).ownsRow wr.heap.size 5 1 (.slice rva rvn rvc) ST.2.d.length (ST.2.d.map (Value.int .u8)) := (Only.setCell (w := X.setCell ⟨wr.heap.size, 1, none⟩ (.int .i64 st)) ⟨wr.heap.size, 2, none⟩ (.int .i64 td)).owns ((Only.setCell (w := X) ⟨wr.heap.size, 1, none⟩ (.int .i64 st)).owns TI.orow (fun t ht e => own_gt TI.orow TI.blk (by decide) t ht (Option.some.inj e))) (fun t ht e => own_gt TI.orow TI.blk (by decide) t ht (Option.some.inj e))
        have eC : ST.2.c (.slice rva rvn rvc) = [.int .i64 cd, .int .i64 st, .int .i64 td, .slice rva rvn rvc, .bool eb] := by unfold SRecvObs.c; rw [eF.1, eF.2.1, eF.2.2.1, eF.2.2.2, est, etd]
        have H5 : Hid _ := And.intro TI (And.intro roW (And.intro blW (And.intro rX (And.intro cX (And.intro oX eC)))))
        clear TI roW blW rX cX oX eC est etd F eF hobA
        go_wp2_with (at_builtin; refine wpList_append5 rfl (.tmp 91) (.tmp 93) rfl w.heap.size (.slice ra k rc') k zs rfl (alloc_owns H5.out.2.1 _) X.heap.size (.int .i64 cd) (.int .i64 st) (.int .i64 td) (.slice rva rvn rvc) (.bool eb) ⟨rfl, rfl, rfl, rfl, rfl⟩ rfl (lit5s X _ _ _ _ _ _ _ _ _ _) hkb (H5.out.2.2.1 _) ?_; intro ro' w6 o6 g6 a6; obtain ⟨ra6, rc6, e6⟩ := own_form o6; have C6 := (alloc_chg _ _ : Chg (fun t => some t = (Value.slice ra k rc').ownBlock) ((X.setCell ⟨wr.heap.size, 1, none⟩ (.int .i64 st)).setCell ⟨wr.heap.size, 2, none⟩ (.int .i64 td)) _).trans (grown_chg g6); have H6 : Hid _ := And.intro o6 (And.intro C6 a6); subst e6; clear o6 g6 a6 C6)
        go_roundg (n - (k + 1))
        case measure => omega
        case rel =>
          obtain ⟨o6, C6, a6⟩ := H6.out
          rw [← H5.out.2.2.2.2.2.2] at o6
          have TI := H5.out.1
          refine ⟨k + 1, by omega, rfl, by go_num, _, _, _, SpJ.next H4.out.1 ST (by rw [H4.out.2.2.2.2.2.2.2.2.2.2]; exact H4.out.2.1) H5.out.2.2.2.2.1 (fun t ht => (TI.hD t ht).imp id (fun x => ⟨x.1, by rw [size_setC2]; exact x.2⟩)) H5.out.2.2.2.1 H5.out.2.2.2.2.2.1 TI.hrD C6 o6 (a6.imp id (fun e => ⟨_, e, by simp [size_setC2]⟩))⟩
      · have n1 : (x0 == 1) = false := by simpa using k1
        have n2 : (x0 == 2) = false := by simpa using k2
        have n3 : (x0 == 3) = false := by simpa using k3
        have mk : ST = ((mrun win R k).1, ⟨1, (mrun win R k).1.st, (mrun win R k).1.told, [], false⟩) := by rw [H4.out.2.1]; unfold mstep; dsimp only; rw [if_neg k1, if_neg k2, if_neg k3]
        obtain ⟨cd, ecd⟩ : ∃ c : Int, c = 1 := ⟨_, rfl⟩
        obtain ⟨eb, eeb⟩ : ∃ c : Bool, c = false := ⟨_, rfl⟩
        have eF : ST.2.f0 = cd ∧ ST.2.f1 = (ST.1.st : Int) ∧ ST.2.f2 = ST.1.told ∧ ST.2.f4 = eb := by rw [mk, ecd, eeb]; exact ⟨rfl, rfl, rfl, rfl⟩
        have TI : TailI g win R w wr (wr.alloc (.cells #[.int .i64 1, .int .i64 0, .int .i64 0, .slice none 0 0, .bool false] 55)) k zs (.slice ra k rc') (.slice none 0 0) D D cd eb ST.1 ST.2.d := by
          rw [mk, ecd, eeb]
          exact ⟨hobA, H4.out.2.2.2.2.2.2.1, Chg.of_below H4.out.2.2.1, fun t ht => Or.inl ht, H4.out.2.2.2.1, World.ownsRow_nil _ _ _ _, fun t ht => (by cases ht), alloc_owns H4.out.1.ow _⟩
        obtain ⟨X, eX⟩ : ∃ X, X = wr.alloc (.cells #[.int .i64 1, .int .i64 0, .int .i64 0, .slice none 0 0, .bool false] 55) := ⟨_, rfl⟩
        rw [← eX] at TI
        clear mk ecd eeb k1 k2 k3
        go_upto_region 21 with fail
        rw [← eX]
        clear eX
        obtain ⟨st, est⟩ : ∃ s : Int, s = (ST.1.st : Int) := ⟨_, rfl⟩
        obtain ⟨td, etd⟩ : ∃ t : Int, t = ST.1.told := ⟨_, rfl⟩
        have F := TI.rep.facts
        have g0 : X.cell? ⟨g, 0, none⟩ = some (.int .i64 st) := by rw [est]; exact F.1
        have g2 : X.cell? ⟨g, 2, none⟩ = some (.int .i64 td) := by rw [etd]; exact F.2.1
        have z0 : X.cell? ⟨wr.heap.size, 0, none⟩ = some (.int .i64 cd) := (bk_cell TI.blk 0).trans rfl
        have z1 : X.cell? ⟨wr.heap.size, 1, none⟩ = some (.int .i64 0) := (bk_cell TI.blk 1).trans rfl
        have z2 : X.cell? ⟨wr.heap.size, 2, none⟩ = some (.int .i64 0) := (bk_cell TI.blk 2).trans rfl
        have z3 : X.cell? ⟨wr.heap.size, 3, none⟩ = some (.slice none 0 0) := (bk_cell TI.blk 3).trans rfl
        have z4 : X.cell? ⟨wr.heap.size, 4, none⟩ = some (.bool eb) := (bk_cell TI.blk 4).trans rfl
        have fr1 : X.frozen? ⟨wr.heap.size, 1, none⟩ = false := bk_free TI.blk 1
        have fr2 : X.frozen? ⟨wr.heap.size, 2, none⟩ = false := bk_free TI.blk 2
        have hgo : g ≠ wr.heap.size := fun e => TI.obD (by rw [← e]; exact F.2.2.2.1)
        have hgX : g < X.heap.size := F.2.2.1
        have hoX : wr.heap.size < X.heap.size := (Array.getElem?_eq_some_iff.1 TI.blk).1
        have hro : ∀ t, (Value.slice ra k rc').ownBlock = some t → t ≠ wr.heap.size := fun t ht e => by have := (H4.out.1.ow.lt t ht).2; omega
        have roW : ((X.setCell ⟨wr.heap.size, 1, none⟩ (.int .i64 st)).setCell ⟨wr.heap.size, 2, none⟩ (.int .i64 td)).ownsRow w.heap.size 55 5 (.slice ra k rc') k zs := (Only.setCell (w := X.setCell ⟨wr.heap.size, 1, none⟩ (.int .i64 st)) ⟨wr.heap.size, 2, none⟩ (.int .i64 td)).owns ((Only.setCell (w := X) ⟨wr.heap.size, 1, none⟩ (.int .i64 st)).owns TI.rox (fun t ht e => hro t ht (Option.some.inj e))) (fun t ht e => hro t ht (Option.some.inj e))
        have hkb : k + 1 ≤ 1099511627776 := by omega
        have blW : ∀ o : Obj, w.heap.size ≤ (((X.setCell ⟨wr.heap.size, 1, none⟩ (.int .i64 st)).setCell ⟨wr.heap.size, 2, none⟩ (.int .i64 td)).alloc o).heap.size := fun o => by simp [size_setC2]; omega
        have rX : MRep ((X.setCell ⟨wr.heap.size, 1, none⟩ (.int .i64 st)).setCell ⟨wr.heap.size, 2, none⟩ (.int .i64 td)) (D) g w.heap.size win ST.1 := TI.rep.chg (S := (· = wr.heap.size)) (((chg_of_eq (S := (· = wr.heap.size)) X).set' wr.heap.size 1 _ rfl).set' wr.heap.size 2 _ rfl) (fun t ht e => TI.obD (by have e' : t = wr.heap.size := e; rw [← e']; exact ht))
        have cX : Chg D wr ((X.setCell ⟨wr.heap.size, 1, none⟩ (.int .i64 st)).setCell ⟨wr.heap.size, 2, none⟩ (.int .i64 td)) := (TI.ch.setOb wr.heap.size 1 _ (Nat.le_refl _)).setOb wr.heap.size 2 _ (Nat.le_refl _)
        have oX : ((X.setCell ⟨wr.heap.size, 1, none⟩ (.int .i64 st)).setCell ⟨wr.heap.size, 2, none⟩ (.int .i64 td)).ownsRow wr.heap.size 5 1 (.slice none 0 0) ST.2.d.length (ST.2.d.map (Value.int .u8)) := (Only.setCell (w := X.setCell ⟨wr.heap.size, 1, none⟩ (.int .i64 st)) ⟨wr.heap.size, 2, none⟩ (.int .i64 td)).owns ((Only.setCell (w := X) ⟨wr.heap.size, 1, none⟩ (.int .i64 st)).owns TI.orow (fun t ht e => own_gt TI.orow TI.blk (by decide) t ht (Option.some.inj e))) (fun t ht e => own_gt TI.orow TI.blk (by decide) t ht (Option.some.inj e))
        have eC : ST.2.c (.slice none 0 0) = [.int .i64 cd, .int .i64 st, .int .i64 td, .slice none 0 0, .bool eb] := by unfold SRecvObs.c; rw [eF.1, eF.2.1, eF.2.2.1, eF.2.2.2, est, etd]
        have H5 : Hid _ := And.intro TI (And.intro roW (And.intro blW (And.intro rX (And.intro cX (And.intro oX eC)))))
        clear TI roW blW rX cX oX eC est etd F eF hobA
        go_wp2_with (at_builtin; refine wpList_append5 rfl (.tmp 91) (.tmp 93) rfl w.heap.size (.slice ra k rc') k zs rfl (alloc_owns H5.out.2.1 _) X.heap.size (.int .i64 cd) (.int .i64 st) (.int .i64 td) (.slice none 0 0) (.bool eb) ⟨rfl, rfl, rfl, rfl, rfl⟩ rfl (lit5s X _ _ _ _ _ _ _ _ _ _) hkb (H5.out.2.2.1 _) ?_; intro ro' w6 o6 g6 a6; obtain ⟨ra6, rc6, e6⟩ := own_form o6; have C6 := (alloc_chg _ _ : Chg (fun t => some t = (Value.slice ra k rc').ownBlock) ((X.setCell ⟨wr.heap.size, 1, none⟩ (.int .i64 st)).setCell ⟨wr.heap.size, 2, none⟩ (.int .i64 td)) _).trans (grown_chg g6); have H6 : Hid _ := And.intro o6 (And.intro C6 a6); subst e6; clear o6 g6 a6 C6)
        go_roundg (n - (k + 1))
        case measure => omega
        case rel =>
          obtain ⟨o6, C6, a6⟩ := H6.out
          rw [← H5.out.2.2.2.2.2.2] at o6
          have TI := H5.out.1
          refine ⟨k + 1, by omega, rfl, by go_num, _, _, _, SpJ.next H4.out.1 ST (by rw [H4.out.2.2.2.2.2.2.2.2.2.2]; exact H4.out.2.1) H5.out.2.2.2.2.1 (fun t ht => (TI.hD t ht).imp id (fun x => ⟨x.1, by rw [size_setC2]; exact x.2⟩)) H5.out.2.2.2.1 H5.out.2.2.2.2.2.1 TI.hrD C6 o6 (a6.imp id (fun e => ⟨_, e, by simp [size_setC2]⟩))⟩
    · obtain rfl : k = n := by omega
      have H2 : Hid _ := And.intro SJ True.intro
      clear SJ
      go_wp2
      go_ret2
      obtain ⟨zl', ow, cs, inn, ap, rep, dr, du, db, bw⟩ := H2.out.1
      refine ⟨_, rfl, ⟨U, ⟨zs, by rw [zl_length, mrun_length]; exact ow, fun j hj f hf => ?_⟩, fun j hj => ?_, fun i j hij hj => ap i j hij (by rw [mrun_length] at hj; exact hj)⟩, bw⟩
      · rw [zl_length, mrun_length] at hj
        rw [zl_at _ _ _ _ (by rw [mrun_length]; exact hj), mrun_at win R j k hj]
        exact cs j hj f hf
      · rw [mrun_length] at hj
        rw [mrun_at win R j k hj]
        exact inn j hj
end Go.Proofs.YtajachmhppoodaaDoor
