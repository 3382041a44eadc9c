import Derived.Test.YtajachmhppoodaaDoorRsC
namespace Go.Proofs.YtajachmhppoodaaDoor
open Go.RowKit
set_option linter.unusedVariables false
set_option linter.unusedSimpArgs false

theorem lit1 (w : World) (t : TypeId) (x : Value) : (w.alloc (.cells #[x] t)).cell? ⟨w.heap.size, 0, none⟩ = some x := bk_cell (heap_alloc_new w _) 0
theorem size_setC (w : World) (a : Addr) (v : Value) : (w.setCell a v).heap.size = w.heap.size := by simp [World.setCell]
theorem lit1s (w : World) (a : Addr) (v : Value) (t : TypeId) (x : Value) : ((w.setCell a v).alloc (.cells #[x] t)).cell? ⟨w.heap.size, 0, none⟩ = some x := by
  have h := lit1 (w.setCell a v) t x
  rw [size_setC] at h; exact h
theorem own_form {w : World} {base e s n : Nat} {v : Value} {xs : List Value} (h : w.ownsRow base e s v n xs) : ∃ a c, v = .slice a n c := by
  rcases h.2 with ⟨rfl, h1⟩ | ⟨g', cap, cur, rfl, _⟩
  · exact ⟨none, 0, by rw [h1]⟩
  · exact ⟨_, _, rfl⟩
theorem drewOwns {w : World} {base e s n : Nat} {v : Value} {xs : List Value} (h : w.ownsRow base e s v n xs) : w.drew.ownsRow base e s v n xs := h
theorem MA.put {w : World} {D : Nat → Prop} {g base j dc tc tb db p : Nat} {TT : PL} {xv : Int} (hA : MA w D g base TT (.slice (some ⟨db, 0, none⟩) j dc) (.slice (some ⟨tb, 0, none⟩) j tc)) (ntd : tb ≠ db) (hl : TT.length = j) :
    MA ((w.setCell ⟨tb, p, none⟩ (.bool true)).setCell ⟨db, p, none⟩ (.int .u8 xv)).drew D g base (TT.set p (true, xv)) (.slice (some ⟨db, 0, none⟩) j dc) (.slice (some ⟨tb, 0, none⟩) j tc) := by
  have e1 : (TT.set p (true, xv)).map (fun x => Value.int .u8 x.2) = (TT.map (fun x => Value.int .u8 x.2)).set p (.int .u8 xv) := by rw [List.map_set]
  have e2 : (TT.set p (true, xv)).map (fun x => Value.bool x.1) = (TT.map (fun x => Value.bool x.1)).set p (.bool true) := by rw [List.map_set]
  have od := hA.od
  have ot := hA.ot
  rw [hl] at od ot
  refine ⟨?_, ?_, hA.dg, hA.dd, hA.dt, fun k hk => ?_, hA.gb⟩
  · rw [List.length_set, e1, hl]
    exact drewOwns ((((Only.setCell (w := w) ⟨tb, p, none⟩ (.bool true)).owns od (fun k hk e => ntd (by simp [Value.ownBlock] at hk; have := Option.some.inj e; simp at this; omega))).stored p _).1)
  · rw [List.length_set, e2, hl]
    exact drewOwns ((Only.setCell (w := w.setCell ⟨tb, p, none⟩ (.bool true)) ⟨db, p, none⟩ (.int .u8 xv)).owns ((ot.stored p _).1) (fun k hk e => ntd (by simp [Value.ownBlock] at hk; have := Option.some.inj e; simp at this; omega)))
  · have := hA.lt k hk
    show k < _
    rw [show (((w.setCell ⟨tb, p, none⟩ (.bool true)).setCell ⟨db, p, none⟩ (.int .u8 xv)).drew).heap.size = w.heap.size by simp [World.setCell, World.drew]]
    exact this
theorem MA.setG {w : World} {D : Nat → Prop} {g base : Nat} {T : PL} {vd vt : Value} (hA : MA w D g base T vd vt) (n1 : ∀ k, vt.ownBlock = some k → k ≠ g) (n2 : ∀ k, vd.ownBlock = some k → k ≠ g) (i : Nat) (u : Value) : MA (w.setCell ⟨g, i, none⟩ u) D g base T vd vt :=
  ⟨(Only.setCell (w := w) ⟨g, i, none⟩ u).owns hA.od (fun k hk e => n2 k hk (Option.some.inj e)), (Only.setCell (w := w) ⟨g, i, none⟩ u).owns hA.ot (fun k hk e => n1 k hk (Option.some.inj e)), hA.dg, hA.dd, hA.dt, fun k hk => by rw [size_setC]; exact hA.lt k hk, hA.gb⟩
theorem MA.drewM {w : World} {D : Nat → Prop} {g base : Nat} {T : PL} {vd vt : Value} (hA : MA w D g base T vd vt) (n : Nat) : MA (w.drewN n) D g base T vd vt := ⟨hA.od, hA.ot, hA.dg, hA.dd, hA.dt, hA.lt, hA.gb⟩
theorem mB.drewM {w : World} {g : Nat} {st win told read final en : Int} {sized : Bool} {vd vt : Value} (h : mB w g st win told read final en sized vd vt) (n : Nat) : mB (w.drewN n) g st win told read final en sized vd vt := h
theorem MA.wide {w : World} {D D' : Nat → Prop} {g base : Nat} {T : PL} {vd vt : Value} (hA : MA w D g base T vd vt) (h1 : ∀ k, D k → D' k) (h2 : ∀ k, D' k → k < w.heap.size) : MA w D' g base T vd vt := ⟨hA.od, hA.ot, h1 _ hA.dg, fun k hk => h1 k (hA.dd k hk), fun k hk => h1 k (hA.dt k hk), h2, hA.gb⟩
theorem Chg.trDU {D : Nat → Prop} {w we wr : World} (h1 : Chg D w we) (h2 : Chg (DU D w we) we wr) : Chg D w wr :=
  ⟨h2.os.trans h1.os, h2.tape.trans h1.tape, h2.output.trans h1.output, Nat.le_trans h1.size h2.size, fun k hk hn => (h2.block k (Nat.lt_of_lt_of_le hk h1.size) (fun e => e.elim hn (fun x => by omega))).trans (h1.block k hk hn)⟩
theorem Chg.setD {D : Nat → Prop} {w wr : World} (h : Chg D w wr) (g i : Nat) (u : Value) (hg : D g ∨ w.heap.size ≤ g) : Chg D w (wr.setCell ⟨g, i, none⟩ u) :=
  ⟨h.os, h.tape, h.output, by rw [size_setC]; exact h.size, fun k hk hn => (bk_other (k := k) (g := g) (fun e => hg.elim (fun x => hn (by rw [e]; exact x)) (fun x => by omega)) i u).trans (h.block k hk hn)⟩
theorem Chg.drewD {D : Nat → Prop} {w wr : World} (h : Chg D w wr) (n : Nat) : Chg D w (wr.drewN n) := ⟨h.os, h.tape, h.output, h.size, h.block⟩
theorem Chg.drewD1 {D : Nat → Prop} {w wr : World} (h : Chg D w wr) : Chg D w wr.drew := ⟨h.os, h.tape, h.output, h.size, h.block⟩
theorem pad_self (T : PL) (j : Nat) (h : j ≤ T.length) : pad T j = T := by unfold pad; rw [show j - T.length = 0 by omega]; simp
theorem alloc_chg {S : Nat → Prop} (w : World) (o : Obj) : Chg S w (w.alloc o) := Chg.of_below ((Below.refl _ _).alloc (Nat.le_refl _) o)
theorem alloc_owns {w : World} {base e s n : Nat} {v : Value} {xs : List Value} (h : w.ownsRow base e s v n xs) (o : Obj) : (w.alloc o).ownsRow base e s v n xs := owns_below h ((Below.refl _ _).alloc (Nat.le_refl _) o)
set_option maxRecDepth 20000 in
set_option maxHeartbeats 8000000 in
theorem take_5 (g base : Nat) (st : Nat) (win told read final : Int) (off : Nat) (sized fb : Bool) (T : PL) (D : Nat → Prop) (av : Value) (X : List Int) (w : World) (m1 : ∃ vd vt, mB w g st win told read final (T.length : Nat) sized vd vt ∧ MA w D g base T vd vt) (hrow : Row w .u8 av X) (hnD : ∀ b o l cp, av = .slice (some ⟨b, o, none⟩) l cp → 0 < X.length → ¬ D b)
    (a1 : X.length ≤ 1500) (a4 : (off : Int) + X.length ≤ told) (hto : told ≤ 1000000) (hT : T.length ≤ 1000000) (hf0 : 0 ≤ final) (hf1 : final ≤ 1000000)
    (h : ¬ ((sized = true ∧ (final < (off : Int) + X.length ∨ (fb = true ∧ (off : Int) + X.length ≠ final))) ∨ (fb = true ∧ (off : Int) + X.length < (T.length : Nat)))) (hs : st < 2) (hbase : base ≤ w.heap.size) :
    Calls Tryd.prog 25 #[.pointer (some ⟨g, 0, none⟩), .int .i64 (off : Int), av, .bool fb] w fun e w' => e = .returned (.int .i64 0) ∧ Chg D w w' ∧ ∃ vd vt,
      mB w' g (if wholeM (sized || fb) (if fb then (off : Int) + X.length else final) (putF (pad T (off + X.length)) off X X.length) then 2 else if fb then 1 else st) win told read (if fb then (off : Int) + X.length else final) ((putF (pad T (off + X.length)) off X X.length).length : Nat) (sized || fb) vd vt ∧ MA w' (DU D w w') g base (putF (pad T (off + X.length)) off X X.length) vd vt := by
  obtain ⟨vd0, vt0, hb, hA⟩ := m1
  obtain ⟨aa, ac, ev⟩ := hrow.form
  have HR : Hid _ := And.intro hrow (And.intro hnD True.intro)
  subst ev
  obtain ⟨n, en⟩ : ∃ n, n = X.length := ⟨_, rfl⟩
  have EN : Hid _ := en
  rw [← en] at a1 a4 h HR ⊢
  obtain ⟨T3, eT3⟩ : ∃ T3, T3 = putF (pad T (off + n)) off X n := ⟨_, rfl⟩
  rw [← eT3]
  obtain ⟨S2, eS2⟩ : ∃ S2 : Int, S2 = (if wholeM (sized || fb) (if fb then (off : Int) + n else final) T3 then 2 else if fb then 1 else (st : Int)) := ⟨_, rfl⟩
  rw [← eS2]
  obtain ⟨F2, eF2⟩ : ∃ F2 : Int, F2 = (if fb then (off : Int) + n else final) := ⟨_, rfl⟩
  obtain ⟨Z2, eZ2⟩ : ∃ Z2 : Bool, Z2 = (sized || fb) := ⟨_, rfl⟩
  rw [← eF2, ← eZ2]
  have HE : Hid _ := And.intro eT3 (And.intro eS2 (And.intro eF2 eZ2))
  clear eT3 eS2 eF2 eZ2
  have c0 : w.cell? ⟨g, 0, none⟩ = some (.int .i64 (st : Int)) := (bk_cell hb 0).trans rfl
  have c2 : w.cell? ⟨g, 2, none⟩ = some (.int .i64 told) := (bk_cell hb 2).trans rfl
  have c4 : w.cell? ⟨g, 4, none⟩ = some (.int .i64 final) := (bk_cell hb 4).trans rfl
  have c5 : w.cell? ⟨g, 5, none⟩ = some (.int .i64 (T.length : Nat)) := (bk_cell hb 5).trans rfl
  have c6 : w.cell? ⟨g, 6, none⟩ = some (.bool sized) := (bk_cell hb 6).trans rfl
  have H0 : Hid _ := And.intro hb (And.intro hA h)
  obtain ⟨tl, etl⟩ : ∃ tl, tl = T.length := ⟨_, rfl⟩
  have ETL : Hid _ := etl
  rw [← etl] at c5 hT
  clear hb hA h hrow hnD en etl
  go_enter Tryd.func25, Tryd.ntmps25
  go_upto_region 6 with fail
  go_cut [68] from 35 to 68 (fun cv wx => cv = .bool false ∧ wx = w)
  case first =>
    have h := H0.out.2.2
    rw [← ETL.out] at h
    cases sized
    · cases fb
      · clear h
        go_wp2_with fail
        go_meet
        exact ⟨rfl, rfl⟩
      · have b1 : ¬ ((off : Int) + (n : Int) < (tl : Int)) := fun e => h (Or.inr ⟨rfl, e⟩)
        clear h
        go_wp2_with fail
        go_meet
        exact ⟨rfl, rfl⟩
    · have b2 : ¬ final < (off : Int) + n := fun e => h (Or.inl ⟨rfl, Or.inl e⟩)
      cases fb
      · clear h
        go_wp2_with fail
        go_meet
        exact ⟨rfl, rfl⟩
      · have b1 : ¬ ((off : Int) + (n : Int) < (tl : Int)) := fun e => h (Or.inr ⟨rfl, e⟩)
        have b3 : (((off : Int) + (n : Int)) != final) = false := by
          by_cases e : (off : Int) + (n : Int) = final
          · simpa using e
          · exact absurd (Or.inl ⟨rfl, Or.inr ⟨rfl, e⟩⟩) h
        clear h
        go_wp2_with fail
        go_meet
        exact ⟨rfl, rfl⟩
  case rest =>
  obtain ⟨rfl, hw⟩ := hcut
  subst wc
  go_upto_region 8 with fail
  go_cut [80] from 69 to 80 (fun cv wx => cv = .bool false ∧ wx = w)
  case first =>
    by_cases h0 : st = 0
    · have s0 : ((st : Int) != 0) = false := by simp; omega
      go_wp2_with fail
      go_meet
      exact ⟨rfl, rfl⟩
    · have s0 : ((st : Int) != 0) = true := by simp; omega
      have s1 : ((st : Int) != 1) = false := by simp; omega
      go_wp2_with fail
      go_meet
      exact ⟨rfl, rfl⟩
  case rest =>
  obtain ⟨rfl, hw⟩ := hcut
  subst wc
  clear c0 c2 c4 c5 c6
  go_wp2_with fail
  have HP : Hid (PadI w w D g base tl st win told read final (T.length : Nat) sized T) := by
    refine ⟨vd0, vt0, H0.out.1, ?_, chg_of_eq w⟩
    have hA := H0.out.2.1
    rw [pad_self T tl (by rw [ETL.out]; exact Nat.le_refl _)]
    exact ⟨hA.od, hA.ot, Or.inl hA.dg, fun k hk => Or.inl (hA.dd k hk), fun k hk => Or.inl (hA.dt k hk), fun k hk => hk.elim (hA.lt k) (fun x => x.2), hA.gb⟩
  go_loopg [] (off + n) (fun q wr => ∃ j : Nat, tl ≤ j ∧ (j = tl ∨ j ≤ off + n) ∧ off + n - j ≤ q ∧ PadI w wr D g base j st win told read final (T.length : Nat) sized T)
  case atStart => exact ⟨tl, Nat.le_refl _, Or.inl rfl, by omega, HP.out⟩
  case round =>
    obtain ⟨j, hj1, hj2, hq, vd, vt, hb, hA, hc⟩ := hrel
    have hpl : (pad T j).length = j := by rw [pad_length]; have := ETL.out; omega
    have hgl := hb.lt
    have zc := hc.size
    have d7 : wr.cell? ⟨g, 7, none⟩ = some vd := (bk_cell hb 7).trans rfl
    have d8 : wr.cell? ⟨g, 8, none⟩ = some vt := (bk_cell hb 8).trans rfl
    have od : wr.ownsRow base 5 1 vd j ((pad T j).map fun x => .int .u8 x.2) := by have := hA.od; rwa [hpl] at this
    have ot : wr.ownsRow base 4 1 vt j ((pad T j).map fun x => .bool x.1) := by have := hA.ot; rwa [hpl] at this
    obtain ⟨da, dc, ed⟩ := own_form od
    obtain ⟨ta, tc, et⟩ := own_form ot
    by_cases hlt : j < off + n
    · have n1 : ∀ k, vt.ownBlock = some k → k ≠ g := own_gt ot hb (by decide)
      have H1 : Hid _ := And.intro hb (And.intro hA (And.intro hc (And.intro od (And.intro ot (And.intro hpl (And.intro n1 (And.intro ed et)))))))
      have hjm : j + 1 ≤ 1099511627776 := by omega
      subst ed et
      clear hb hA hc od ot hpl n1
      go_wp2_with (first
        | (at_builtin; refine wpList_append_one rfl (.tmp 92) (.tmp 93) 50 4 (.bool false) 1 rfl (by decide) rfl Tryd.underlying50 infoBo base (.slice ta j tc) j ((pad T j).map fun x => .bool x.1) rfl (alloc_owns H1.out.2.2.2.2.1 _) wr.heap.size (.bool false) rfl rfl (lit1 wr _ _) hjm (by simp; omega) ?_; intro vt' w1 o1 g1 at1; obtain ⟨ta', tc', et'⟩ := own_form o1; have C1 : Chg (fun k => some k = (Value.slice ta j tc).ownBlock) wr w1 := (alloc_chg wr _).trans (grown_chg g1); have b1 : mB w1 g st win told read final (T.length : Nat) sized (.slice da j dc) (.slice ta j tc) := (C1.block g hgl (fun e => H1.out.2.2.2.2.2.2.1 g e.symm rfl)).trans H1.out.1; have e7 : w1.cell? ⟨g, 7, none⟩ = some (.slice da j dc) := (bk_cell b1 7).trans rfl; have e8 : w1.cell? ⟨g, 8, none⟩ = some (.slice ta j tc) := (bk_cell b1 8).trans rfl; have f8 : w1.frozen? ⟨g, 8, none⟩ = false := bk_free b1 8; have z1 := C1.size; have oD : (w1.setCell ⟨g, 8, none⟩ vt').ownsRow base 5 1 (.slice da j dc) j ((pad T j).map fun x => .int .u8 x.2) := (Only.setCell (w := w1) ⟨g, 8, none⟩ vt').owns (ownsChg C1 H1.out.2.2.2.1 (fun k hk e => own_two (by decide) H1.out.2.2.2.1 H1.out.2.2.2.2.1 k hk e)) (fun k hk e => own_gt H1.out.2.2.2.1 H1.out.1 (by decide) k hk (Option.some.inj e)); have bb2 : base ≤ ((w1.setCell ⟨g, 8, none⟩ vt').alloc (.cells #[.int .u8 0] 5)).heap.size := (by simp [World.setCell]; omega); have H2 : Hid _ := And.intro C1 (And.intro b1 (And.intro o1 (And.intro at1 (And.intro oD bb2)))); subst et'; clear C1 b1 o1 g1 at1 oD bb2)
        | (at_builtin; refine wpList_append_one rfl (.tmp 101) (.tmp 102) 47 5 (.int .u8 0) 1 rfl (by decide) rfl Tryd.underlying47 infoU8 base (.slice da j dc) j ((pad T j).map fun x => .int .u8 x.2) rfl (alloc_owns H2.out.2.2.2.2.1 _) w1.heap.size (.int .u8 0) rfl rfl (lit1s w1 _ _ _ _) hjm H2.out.2.2.2.2.2 ?_; intro vd' w2 o2 g2 at2; obtain ⟨da', dc', ed'⟩ := own_form o2; have C2 : Chg (fun k => some k = (Value.slice da j dc).ownBlock) (w1.setCell ⟨g, 8, none⟩ (.slice ta' (j + 1) tc')) w2 := (alloc_chg _ _).trans (grown_chg g2); have b2 : mB w2 g st win told read final (T.length : Nat) sized (.slice da j dc) (.slice ta' (j + 1) tc') := (C2.block g (by rw [size_setC]; omega) (fun e => own_gt H1.out.2.2.2.1 H1.out.1 (by decide) g e.symm rfl)).trans (bk_set H2.out.2.1 8 _); have e7' : w2.cell? ⟨g, 7, none⟩ = some (.slice da j dc) := (bk_cell b2 7).trans rfl; have f7' : w2.frozen? ⟨g, 7, none⟩ = false := bk_free b2 7; have z2 := C2.size; have H3 : Hid _ := And.intro C2 (And.intro o2 at2); subst ed'; clear C2 b2 o2 g2 at2))
      go_roundg (off + n - (j + 1))
      case measure => omega
      case rel =>
        refine ⟨j + 1, by omega, Or.inr (by omega), Nat.le_refl _, ?_⟩
        refine PadI.next (by have := ETL.out; omega) H1.out.2.2.2.2.2.1 H1.out.1 H1.out.2.1 H1.out.2.2.1 H2.out.2.2.1 H2.out.1 ?_ H3.out.2.1 H3.out.1 ?_
        · exact H2.out.2.2.2.1.imp id (fun e => ⟨_, e, by simp⟩)
        · exact H3.out.2.2.imp id (fun e => ⟨_, e, by simp [World.setCell]⟩)
    · have eP : pad T j = pad T (off + n) := by
        rcases hj2 with e | e
        · rw [e, pad_self T tl (by rw [ETL.out]; exact Nat.le_refl _), pad_self T (off + n) (by rw [← ETL.out]; omega)]
        · rw [show j = off + n by omega]
      obtain ⟨P, eP2⟩ : ∃ P, P = pad T (off + n) := ⟨_, rfl⟩
      have hPl : P.length = j := by rw [eP2, ← eP]; exact hpl
      rw [eP, ← eP2] at hA
      obtain ⟨D2, eD2⟩ : ∃ D2, D2 = DU D w wr := ⟨_, rfl⟩
      rw [← eD2] at hA
      have hXc : ∀ k, k < n → ∃ b o, aa = some ⟨b, o, none⟩ ∧ wr.cell? ⟨b, o + k, none⟩ = some (.int .u8 (X.getD k 0)) ∧ b < w.heap.size ∧ ¬ D2 b := fun k hk => by
        obtain ⟨b, o, cap, e, hbl, hcc⟩ := HR.out.1.at (by rw [← EN.out]; omega)
        simp only [Value.slice.injEq] at e
        have hnb := HR.out.2.1 b o n cap (by rw [e.1, e.2.2]) (by omega)
        refine ⟨b, o, e.1, ?_, hbl, ?_⟩
        · have t := hcc k (by rw [← EN.out]; omega)
          rw [← t]
          exact World.cell?_of_block (hc.block b hbl hnb)
        · rw [eD2]; rintro (h | h)
          · exact hnb h
          · omega
      have H1 : Hid _ := And.intro hb (And.intro hA (And.intro hc (And.intro eP2 (And.intro eD2 hXc))))
      subst ed et
      clear hb hA hc od ot hpl eP eP2 eD2 hXc
      go_wp2_with fail
      rename World => we
      go_loopg [10] n (fun q i wr => ∃ k : Nat, k ≤ n ∧ q = n - k ∧ i = .int .i64 (k : Int) ∧ mB wr g st win told read final (T.length : Nat) sized (.slice da j dc) (.slice ta j tc) ∧ MA wr D2 g base (putF P off X k) (.slice da j dc) (.slice ta j tc) ∧ Chg D2 we wr)
      case atStart => exact ⟨0, by omega, by omega, rfl, H1.out.1, H1.out.2.1, chg_of_eq we⟩
      case round =>
        obtain ⟨k, hk, hqk, rfl, hb, hA, hc⟩ := hrel
        have hgl2 := hb.lt
        have d7 : wr.cell? ⟨g, 7, none⟩ = some (.slice da j dc) := (bk_cell hb 7).trans rfl
        have d8 : wr.cell? ⟨g, 8, none⟩ = some (.slice ta j tc) := (bk_cell hb 8).trans rfl
        have hTl : (putF P off X k).length = j := by rw [putF_length]; exact hPl
        by_cases hkn : k < n
        · have ot := hA.ot
          have od := hA.od
          rw [hTl] at ot od
          obtain ⟨tb, tcap, e1, tcell, tfro⟩ := row_bool ot hTl.symm (off + k) (by omega)
          obtain ⟨db, dcap, e2, dcell, dfro⟩ := row_byte od hTl.symm (off + k) (by omega)
          simp only [Value.slice.injEq] at e1 e2
          obtain ⟨rfl, -, rfl⟩ := e1
          obtain ⟨rfl, -, rfl⟩ := e2
          obtain ⟨xb, xo, rfl, xcell, xlt, xnD⟩ := H1.out.2.2.2.2.2 k hkn
          have xcell' : wr.cell? ⟨xb, xo + k, none⟩ = some (.int .u8 (X.getD k 0)) := by
            rw [← xcell]; exact World.cell?_of_block (hc.block xb (by have := H1.out.2.2.1.size; omega) xnD)
          have hoj : ((off : Int) + (k : Int)) < (j : Int) := by omega
          have hoj0 : 0 ≤ (off : Int) + (k : Int) := by omega
          have hon : ((off : Int) + (k : Int)).toNat = off + k := by omega
          have hps : putF P off X (k + 1) = put1 (putF P off X k) (off + k) (X.getD k 0) := rfl
          generalize X.getD k 0 = xv at xcell' hps
          generalize putF P off X k = TT at hA ot od tcell dcell hTl hps
          by_cases ht : (PL.g TT (off + k)).1 = true
          · rw [ht] at tcell
            have hps2 : put1 TT (off + k) xv = TT := by unfold put1; rw [if_pos ht]
            have H2 : Hid _ := And.intro hb (And.intro hA (And.intro hc (hps.trans hps2)))
            clear hb hA hc ot od hps hps2 ht xcell
            go_wp2_with fail
            go_roundg (n - (k + 1))
            case measure => omega
            case rel => exact ⟨k + 1, by omega, rfl, by go_num, H2.out.1, by rw [H2.out.2.2.2]; exact H2.out.2.1, H2.out.2.2.1⟩
          · have ht' : (PL.g TT (off + k)).1 = false := by simpa using ht
            rw [ht'] at tcell
            have hps2 : put1 TT (off + k) xv = TT.set (off + k) (true, xv) := by unfold put1; rw [if_neg ht]
            have ntg : tb ≠ g := own_gt ot hb (by decide) tb rfl
            have ndg : db ≠ g := own_gt od hb (by decide) db rfl
            have ntd : tb ≠ db := fun e => own_two (by decide) ot od tb rfl (by rw [e]; rfl)
            have nxt : xb ≠ tb := fun e => xnD (by rw [e]; exact hA.dt tb rfl)
            have nxd : xb ≠ db := fun e => xnD (by rw [e]; exact hA.dd db rfl)
            have tlt : tb < wr.heap.size := (ot.lt tb rfl).2
            have dlt : db < wr.heap.size := (od.lt db rfl).2
            generalize (PL.g TT (off + k)).2 = ov at dcell
            have H2 : Hid _ := And.intro hb (And.intro hA (And.intro hc (And.intro (hps.trans hps2) (And.intro ot od))))
            clear hb hA hc ot od hps hps2 ht ht' xcell
            go_wp2_with fail
            go_region
            all_goals
              go_wp2_with fail
              go_roundg (n - (k + 1))
              case measure => omega
              case rel =>
                refine ⟨k + 1, by omega, rfl, by go_num, ?_, ?_, ?_⟩
                · exact ((bk_other (w := wr.setCell ⟨tb, off + k, none⟩ (.bool true)) (fun e => ndg e.symm) (off + k) (.int .u8 xv)).trans (bk_other (fun e => ntg e.symm) (off + k) (.bool true))).trans H2.out.1
                · rw [H2.out.2.2.2.1]
                  exact H2.out.2.1.put ntd hTl
                · exact ((H2.out.2.2.1.setD tb (off + k) _ (Or.inl (H2.out.2.1.dt tb rfl))).setD db (off + k) _ (Or.inl (H2.out.2.1.dd db rfl))).drewD1
        · obtain rfl : k = n := by omega
          have c0 : wr.cell? ⟨g, 0, none⟩ = some (.int .i64 (st : Int)) := (bk_cell hb 0).trans rfl
          have c4 : wr.cell? ⟨g, 4, none⟩ = some (.int .i64 final) := (bk_cell hb 4).trans rfl
          have c5 : wr.cell? ⟨g, 5, none⟩ = some (.int .i64 (tl : Int)) := by rw [ETL.out]; exact (bk_cell hb 5).trans rfl
          have c6 : wr.cell? ⟨g, 6, none⟩ = some (.bool sized) := (bk_cell hb 6).trans rfl
          have f0 := bk_free hb 0
          have f4 := bk_free hb 4
          have f5 := bk_free hb 5
          have f6 := bk_free hb 6
          have n1 : ∀ t, (Value.slice ta j tc).ownBlock = some t → t ≠ g := own_gt hA.ot hb (by decide)
          have n2 : ∀ t, (Value.slice da j dc).ownBlock = some t → t ≠ g := own_gt hA.od hb (by decide)
          obtain ⟨T2, eT2⟩ : ∃ T2, T2 = putF P off X k := ⟨_, rfl⟩
          rw [← eT2] at hA hTl
          obtain ⟨mx, emx⟩ : ∃ mx : Int, mx = max (tl : Int) ((off : Int) + (k : Int)) := ⟨_, rfl⟩
          have hmx : max (tl : Int) ((off : Int) + (k : Int)) = mx := emx.symm
          have hmxT : mx = ((T2.length : Nat) : Int) := by rw [emx, hTl]; omega
          have hT2 : T2.length ≤ 1000000 := by rw [hTl]; omega
          have eTT : T2 = putF (pad T (off + k)) off X k := by rw [eT2, H1.out.2.2.2.1]
          have hbM : mB wr g st win told read final (T.length : Nat) sized (.slice da j dc) (.slice ta j tc) := hb
          have H2 : Hid _ := And.intro hb (And.intro hA (And.intro hc (And.intro n1 (And.intro n2 (And.intro hmxT (And.intro hT2 eTT))))))
          have DUw : Hid (∀ W : World, wr.heap.size ≤ W.heap.size → ∀ t, D2 t → DU D w W t) := fun W hW t ht => by
            rw [H1.out.2.2.2.2.1] at ht
            exact ht.imp id (fun x => ⟨x.1, by have := hc.size; omega⟩)
          have DUl : Hid (∀ W : World, wr.heap.size ≤ W.heap.size → ∀ t, DU D w W t → t < W.heap.size) := fun W hW t ht => by
            rcases ht with h | h
            · have := hA.lt t (by rw [H1.out.2.2.2.2.1]; exact Or.inl h); omega
            · exact h.2
          have CH : Hid (Chg D w wr) := by
            have h2 := hc
            rw [H1.out.2.2.2.2.1] at h2
            exact H1.out.2.2.1.trDU h2
          have CDG : Hid (D g ∨ w.heap.size ≤ g) := by
            have h2 := hA.dg
            rw [H1.out.2.2.2.2.1] at h2
            exact h2.imp id (fun x => x.1)
          clear hb hA hc n1 n2 hmxT hT2 eTT eT2 emx hTl
          cases fb
          · have C : ∀ W, mB W g st win told read final mx sized (.slice da j dc) (.slice ta j tc) → MA W D2 g base T2 (.slice da j dc) (.slice ta j tc) → _ := fun W h1 h2 => wholeS g base st win told read final mx sized (.slice da j dc) (.slice ta j tc) T2 D2 W h1 h2 H2.out.2.2.2.2.2.2.1 hf0 hf1
            have b5 : mB (wr.setCell ⟨g, 5, none⟩ (.int .i64 mx)) g st win told read final mx sized (.slice da j dc) (.slice ta j tc) := bk_set hbM 5 _
            have M5 := H2.out.2.1.setG H2.out.2.2.2.1 H2.out.2.2.2.2.1 5 (.int .i64 mx)
            have C1 := C _ b5 M5
            obtain ⟨wv, ewv⟩ : ∃ wv, wv = wholeM sized final T2 := ⟨_, rfl⟩
            rw [← ewv] at C1
            have H3 : Hid _ := And.intro C1 (And.intro b5 (And.intro ewv M5))
            clear C C1 b5 ewv hbM M5
            go_wp2_with fail
            go_at_call 45
            refine H3.out.1.mono ?_
            rintro e w9 ⟨rfl, nn, hw⟩
            subst w9
            have b9 := H3.out.2.1.drewM nn
            have M9 := H3.out.2.2.2.drewM nn
            have k0 : ((wr.setCell ⟨g, 5, none⟩ (.int .i64 mx)).drewN nn).cell? ⟨g, 0, none⟩ = some (.int .i64 (st : Int)) := (bk_cell b9 0).trans rfl
            have h0 : ((wr.setCell ⟨g, 5, none⟩ (.int .i64 mx)).drewN nn).frozen? ⟨g, 0, none⟩ = false := bk_free b9 0
            have CH9 : Chg D w ((wr.setCell ⟨g, 5, none⟩ (.int .i64 mx)).drewN nn) := (CH.out.setD g 5 _ CDG.out).drewD nn
            have sz9 : wr.heap.size ≤ ((wr.setCell ⟨g, 5, none⟩ (.int .i64 mx)).drewN nn).heap.size := by show wr.heap.size ≤ (wr.setCell ⟨g, 5, none⟩ (.int .i64 mx)).heap.size; simp [World.setCell]
            have g9 : g < ((wr.setCell ⟨g, 5, none⟩ (.int .i64 mx)).drewN nn).heap.size := b9.lt
            have H4 : Hid _ := And.intro b9 (And.intro M9 (And.intro CH9 (And.intro sz9 (And.intro H3.out.2.2.1 True.intro))))
            clear b9 M9 CH9 sz9
            generalize (wr.setCell ⟨g, 5, none⟩ (.int .i64 mx)).drewN nn = W9 at H4 k0 h0 g9 ⊢
            cases wv
            · go_wp2_with fail
              go_ret
              have eT : T3 = T2 := HE.out.1.trans H2.out.2.2.2.2.2.2.2.symm
              rw [eT]
              refine ⟨rfl, H4.out.2.2.1, .slice da j dc, .slice ta j tc, ?_, H4.out.2.1.wide (DUw.out W9 H4.out.2.2.2.1) (DUl.out W9 H4.out.2.2.2.1)⟩
              obtain ⟨_, eS2, eF2, eZ2⟩ := HE.out
              rw [eT] at eS2
              rw [eS2, eF2, eZ2, ← H2.out.2.2.2.2.2.1]
              have ew := H4.out.2.2.2.2.1
              try simp only [Bool.or_false, Bool.or_true, Bool.false_eq_true, if_false, if_true]
              rw [← ew]
              try simp only [Bool.false_eq_true, if_false, if_true]
              exact H4.out.1
            · go_wp2_with fail
              go_ret
              have eT : T3 = T2 := HE.out.1.trans H2.out.2.2.2.2.2.2.2.symm
              rw [eT]
              have M10 := H4.out.2.1.setG H2.out.2.2.2.1 H2.out.2.2.2.2.1 0 (.int .i64 2)
              refine ⟨rfl, H4.out.2.2.1.setD g 0 _ CDG.out, .slice da j dc, .slice ta j tc, ?_, M10.wide (DUw.out _ (by rw [size_setC]; exact H4.out.2.2.2.1)) (DUl.out _ (by rw [size_setC]; exact H4.out.2.2.2.1))⟩
              obtain ⟨_, eS2, eF2, eZ2⟩ := HE.out
              rw [eT] at eS2
              rw [eS2, eF2, eZ2, ← H2.out.2.2.2.2.2.1]
              have ew := H4.out.2.2.2.2.1
              try simp only [Bool.or_false, Bool.or_true, Bool.false_eq_true, if_false, if_true]
              rw [← ew]
              try simp only [Bool.false_eq_true, if_false, if_true]
              exact bk_set H4.out.1 0 _
          · have C : ∀ W, mB W g 1 win told read ((off : Int) + (k : Int)) mx true (.slice da j dc) (.slice ta j tc) → MA W D2 g base T2 (.slice da j dc) (.slice ta j tc) → _ := fun W h1 h2 => wholeS g base 1 win told read ((off : Int) + (k : Int)) mx true (.slice da j dc) (.slice ta j tc) T2 D2 W h1 h2 H2.out.2.2.2.2.2.2.1 (by omega) (by omega)
            have b5 : mB ((((wr.setCell ⟨g, 5, none⟩ (.int .i64 mx)).setCell ⟨g, 6, none⟩ (.bool true)).setCell ⟨g, 4, none⟩ (.int .i64 ((off : Int) + (k : Int)))).setCell ⟨g, 0, none⟩ (.int .i64 1)) g 1 win told read ((off : Int) + (k : Int)) mx true (.slice da j dc) (.slice ta j tc) := bk_set (bk_set (bk_set (bk_set hbM 5 _) 6 _) 4 _) 0 _
            have M5 := (((H2.out.2.1.setG H2.out.2.2.2.1 H2.out.2.2.2.2.1 5 (.int .i64 mx)).setG H2.out.2.2.2.1 H2.out.2.2.2.2.1 6 (.bool true)).setG H2.out.2.2.2.1 H2.out.2.2.2.2.1 4 (.int .i64 ((off : Int) + (k : Int)))).setG H2.out.2.2.2.1 H2.out.2.2.2.2.1 0 (.int .i64 1)
            have C1 := C _ b5 M5
            obtain ⟨wv, ewv⟩ : ∃ wv, wv = wholeM true ((off : Int) + (k : Int)) T2 := ⟨_, rfl⟩
            rw [← ewv] at C1
            have H3 : Hid _ := And.intro C1 (And.intro b5 (And.intro ewv M5))
            clear C C1 b5 ewv hbM M5
            go_wp2_with fail
            go_at_call 45
            refine H3.out.1.mono ?_
            rintro e w9 ⟨rfl, nn, hw⟩
            subst w9
            have b9 := H3.out.2.1.drewM nn
            have M9 := H3.out.2.2.2.drewM nn
            have k0 : (((((wr.setCell ⟨g, 5, none⟩ (.int .i64 mx)).setCell ⟨g, 6, none⟩ (.bool true)).setCell ⟨g, 4, none⟩ (.int .i64 ((off : Int) + (k : Int)))).setCell ⟨g, 0, none⟩ (.int .i64 1)).drewN nn).cell? ⟨g, 0, none⟩ = some (.int .i64 1) := (bk_cell b9 0).trans rfl
            have h0 : (((((wr.setCell ⟨g, 5, none⟩ (.int .i64 mx)).setCell ⟨g, 6, none⟩ (.bool true)).setCell ⟨g, 4, none⟩ (.int .i64 ((off : Int) + (k : Int)))).setCell ⟨g, 0, none⟩ (.int .i64 1)).drewN nn).frozen? ⟨g, 0, none⟩ = false := bk_free b9 0
            have CH9 : Chg D w (((((wr.setCell ⟨g, 5, none⟩ (.int .i64 mx)).setCell ⟨g, 6, none⟩ (.bool true)).setCell ⟨g, 4, none⟩ (.int .i64 ((off : Int) + (k : Int)))).setCell ⟨g, 0, none⟩ (.int .i64 1)).drewN nn) := (((CH.out.setD g 5 _ CDG.out).setD g 6 _ CDG.out).setD g 4 _ CDG.out |>.setD g 0 _ CDG.out).drewD nn
            have sz9 : wr.heap.size ≤ (((((wr.setCell ⟨g, 5, none⟩ (.int .i64 mx)).setCell ⟨g, 6, none⟩ (.bool true)).setCell ⟨g, 4, none⟩ (.int .i64 ((off : Int) + (k : Int)))).setCell ⟨g, 0, none⟩ (.int .i64 1)).drewN nn).heap.size := by show wr.heap.size ≤ ((((wr.setCell ⟨g, 5, none⟩ (.int .i64 mx)).setCell ⟨g, 6, none⟩ (.bool true)).setCell ⟨g, 4, none⟩ (.int .i64 ((off : Int) + (k : Int)))).setCell ⟨g, 0, none⟩ (.int .i64 1)).heap.size; simp [World.setCell]
            have g9 : g < (((((wr.setCell ⟨g, 5, none⟩ (.int .i64 mx)).setCell ⟨g, 6, none⟩ (.bool true)).setCell ⟨g, 4, none⟩ (.int .i64 ((off : Int) + (k : Int)))).setCell ⟨g, 0, none⟩ (.int .i64 1)).drewN nn).heap.size := b9.lt
            have H4 : Hid _ := And.intro b9 (And.intro M9 (And.intro CH9 (And.intro sz9 (And.intro H3.out.2.2.1 True.intro))))
            clear b9 M9 CH9 sz9
            generalize ((((wr.setCell ⟨g, 5, none⟩ (.int .i64 mx)).setCell ⟨g, 6, none⟩ (.bool true)).setCell ⟨g, 4, none⟩ (.int .i64 ((off : Int) + (k : Int)))).setCell ⟨g, 0, none⟩ (.int .i64 1)).drewN nn = W9 at H4 k0 h0 g9 ⊢
            cases wv
            · go_wp2_with fail
              go_ret
              have eT : T3 = T2 := HE.out.1.trans H2.out.2.2.2.2.2.2.2.symm
              rw [eT]
              refine ⟨rfl, H4.out.2.2.1, .slice da j dc, .slice ta j tc, ?_, H4.out.2.1.wide (DUw.out W9 H4.out.2.2.2.1) (DUl.out W9 H4.out.2.2.2.1)⟩
              obtain ⟨_, eS2, eF2, eZ2⟩ := HE.out
              rw [eT] at eS2
              rw [eS2, eF2, eZ2, ← H2.out.2.2.2.2.2.1]
              have ew := H4.out.2.2.2.2.1
              try simp only [Bool.or_false, Bool.or_true, Bool.false_eq_true, if_false, if_true]
              rw [← ew]
              try simp only [Bool.false_eq_true, if_false, if_true]
              exact H4.out.1
            · go_wp2_with fail
              go_ret
              have eT : T3 = T2 := HE.out.1.trans H2.out.2.2.2.2.2.2.2.symm
              rw [eT]
              have M10 := H4.out.2.1.setG H2.out.2.2.2.1 H2.out.2.2.2.2.1 0 (.int .i64 2)
              refine ⟨rfl, H4.out.2.2.1.setD g 0 _ CDG.out, .slice da j dc, .slice ta j tc, ?_, M10.wide (DUw.out _ (by rw [size_setC]; exact H4.out.2.2.2.1)) (DUl.out _ (by rw [size_setC]; exact H4.out.2.2.2.1))⟩
              obtain ⟨_, eS2, eF2, eZ2⟩ := HE.out
              rw [eT] at eS2
              rw [eS2, eF2, eZ2, ← H2.out.2.2.2.2.2.1]
              have ew := H4.out.2.2.2.2.1
              try simp only [Bool.or_false, Bool.or_true, Bool.false_eq_true, if_false, if_true]
              rw [← ew]
              try simp only [Bool.false_eq_true, if_false, if_true]
              exact bk_set H4.out.1 0 _
end Go.Proofs.YtajachmhppoodaaDoor
