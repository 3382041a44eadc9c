import Derived.Test.YtjikdecfampbiaaPhH
namespace Go.Proofs.Ytjikdecfampbiaa
open Go.RowKit
set_option linter.unusedVariables false
set_option linter.unusedSimpArgs false

/-- The world in which an operation is done: the operation, the observation. -/
def opW (w : World) (o : SPathOp) (dv : Value) : World := (w.alloc (.cells #[.int .i64 o.f0, .int .i64 o.f1, .int .i64 o.f2, dv] 43)).alloc (.cells #[.int .i64 0, .int .i64 0, .int .i64 0, .bool false, .bool false] 41)
theorem opW_below (w : World) (o : SPathOp) (dv : Value) : Below w.heap.size w (opW w o dv) := ((Below.refl _ _).alloc (Nat.le_refl _) _).alloc (by simp) _
theorem opW_bk (w : World) (o : SPathOp) (dv : Value) : (opW w o dv).heap[w.heap.size]? = some (.cells #[.int .i64 o.f0, .int .i64 o.f1, .int .i64 o.f2, dv] 43 (0, 0)) ∧ (opW w o dv).heap[w.heap.size + 1]? = some (.cells #[.int .i64 0, .int .i64 0, .int .i64 0, .bool false, .bool false] 41 (0, 0)) := bk_new2 w _ _
theorem PRep.below {w w' : World} {g base : Nat} {m : PX} (h : PRep w g base m) (hb : Below w.heap.size w w') : PRep w' g base m := by
  obtain ⟨wv, B, O⟩ := h
  exact ⟨wv, B.same (hb.block g B.lt), O.below hb⟩
theorem run_fin {w W w3 : World} {g base q : Nat} {m' : PX} {c0 cs : Array Value} (hP : PRep W g base m') (hC : ChS (fun k => k = g) 80 base w W) (hq : W.heap[q]? = some (.cells c0 41 (0, 0))) (hqn : w.heap.size ≤ q) (SQ : SetQ W w3 q cs) (hg : g < w.heap.size) : PDo g base w w3 m' := by
  obtain ⟨wv, B, O⟩ := hP
  refine ⟨⟨wv, B.same (SQ.other g B.lt (by omega)), ?_⟩, ⟨SQ.os.trans hC.os, SQ.tape.trans hC.tape, SQ.output.trans hC.output, Nat.le_trans hC.size SQ.size, fun k hk hs => (SQ.other k (Nat.lt_of_lt_of_le hk hC.size) (by omega)).trans (hC.block k hk hs)⟩⟩
  rcases O with h | ⟨g5, o5, cap, cur, e, h1, h2, r⟩
  · exact Or.inl h
  · refine Or.inr ⟨g5, o5, cap, cur, e, h1, (SQ.other g5 (Array.getElem?_eq_some_iff.1 h2).1 (fun e => ?_)).trans h2, r⟩
    subst e
    rw [hq] at h2
    have e2 := Option.some.inj h2
    injection e2 with _ e3
    exact absurd e3 (by decide)
/-- Amid an operation: what holds of the paths and of the observation. -/
structure ObW (g base q : Nat) (w W : World) (m' : PX) (c0 : Array Value) : Prop where
  P : PRep W g base m'
  C : ChS (fun k => k = g) 80 base w W
  hq : W.heap[q]? = some (.cells c0 41 (0, 0))
theorem ObW.set {g base q : Nat} {w W : World} {m' : PX} {c0 : Array Value} (h : ObW g base q w W m' c0) (hqn : w.heap.size ≤ q) (hg : g < w.heap.size) (o : Nat) (v : Value) : ObW g base q w (W.setCell ⟨q, o, none⟩ v) m' (c0.setIfInBounds o v) := by
  obtain ⟨wv, B, O⟩ := h.P
  exact ⟨⟨wv, B.same (bk_other (by omega) o v), O.set h.hq (by decide)⟩, h.C.setN hqn o v, bk_set h.hq o v⟩
theorem infoPObs : (Try.prog.info? 41).map (·.size) = some 5 := by kernel_rfl
/-- What one operation answers and leaves. -/
def RunP (g base : Nat) (w w' : World) (s : PX × Int × Bool) : Prop := PDo g base w w' s.1

set_option maxRecDepth 20000 in
set_option maxHeartbeats 4000000 in
theorem run_bad (g base : Nat) (m : PX) (o : SPathOp) (dv : Value) (i : Nat) (w : World) (h : PRep w g base m) (hg : base ≤ g) (hI : PXI i m) (hi : i < 300) (hr : Row w .u8 dv o.f3) (hl : o.f3.length ≤ 1048576) (hbase : base ≤ w.heap.size) (hby : ∀ x ∈ o.f3, 0 ≤ x ∧ x < 256)
    (hc : o.f2 < 0 ∨ 255 < o.f2 ∨ o.f1 < 0 ∨ 2000 < o.f1) :
    Calls Try.prog 20 #[.pointer (some ⟨g, 0, none⟩), .agg #[.int .i64 o.f0, .int .i64 o.f1, .int .i64 o.f2, dv]] w fun e w' => e = .returned (.agg #[.int .i64 (pobs (pstep m o)).f0, .int .i64 (pobs (pstep m o)).f1, .int .i64 (pobs (pstep m o)).f2, .bool (pobs (pstep m o)).f3, .bool (pobs (pstep m o)).f4]) ∧ PDo g base w w' (pstep m o).1 := by
  have es : pstep m o = (m, 1, false) := by unfold pstep; rw [if_pos hc]
  rw [es]
  have hgl : g < w.heap.size := by obtain ⟨wv, B, _⟩ := h; exact B.lt
  obtain ⟨ao, cp, ev⟩ := hr.form
  generalize o.f3.length = dn at ev
  subst ev
  obtain ⟨k, n, a, D⟩ := o
  dsimp only at *
  have HH : Hid _ := And.intro h (And.intro hI hr)
  clear h hI hr es hby hl
  go_enter_defers Try.func20, Try.ntmps20
  by_cases ha : a < 0
  · clear hc
    go_wp2_with fail
    refine leaves_cons (f := 28) (args := #[.pointer (some ⟨g, 0, none⟩), .pointer (some ⟨w.heap.size + 1, 0, none⟩)]) (by simp) (by simp [go_sem]) ?_
    have hb : Below w.heap.size w ((w.alloc (.cells #[.int .i64 k, .int .i64 n, .int .i64 a, .slice ao dn cp] 43)).alloc (.cells #[.int .i64 1, .int .i64 0, .int .i64 0, .bool false, .bool false] 41)) := ((Below.refl _ _).alloc (Nat.le_refl _) _).alloc (by simp) _
    have P := HH.out.1.below hb
    have hq := (bk_new2 w (.cells #[.int .i64 k, .int .i64 n, .int .i64 a, .slice ao dn cp] 43) (.cells #[.int .i64 1, .int .i64 0, .int .i64 0, .bool false, .bool false] 41)).2
    obtain ⟨wv, B, O⟩ := id P
    refine (settleI g (w.heap.size + 1) m wv i 1 0 0 false false _ B HH.out.2.1 (by omega) hq).mono ?_
    rintro e u' w3 ⟨rfl, rfl, SQ⟩
    exact ⟨.agg #[.int .i64 1, .int .i64 (m.ad : Int), .int .i64 m.may, .bool (m.va m.ad), .bool false], results_cell_row (t := 41) rfl _ _ (w.heap.size + 1) _ (fr := (0, 0)) _ rfl SQ.bk Try.underlying41 rfl infoPObs, rfl, run_fin P (ChS.of_below hb) hq (by omega) SQ hgl⟩
  by_cases ha2 : 255 < a
  · clear hc
    go_wp2_with fail
    refine leaves_cons (f := 28) (args := #[.pointer (some ⟨g, 0, none⟩), .pointer (some ⟨w.heap.size + 1, 0, none⟩)]) (by simp) (by simp [go_sem]) ?_
    have hb : Below w.heap.size w ((w.alloc (.cells #[.int .i64 k, .int .i64 n, .int .i64 a, .slice ao dn cp] 43)).alloc (.cells #[.int .i64 1, .int .i64 0, .int .i64 0, .bool false, .bool false] 41)) := ((Below.refl _ _).alloc (Nat.le_refl _) _).alloc (by simp) _
    have P := HH.out.1.below hb
    have hq := (bk_new2 w (.cells #[.int .i64 k, .int .i64 n, .int .i64 a, .slice ao dn cp] 43) (.cells #[.int .i64 1, .int .i64 0, .int .i64 0, .bool false, .bool false] 41)).2
    obtain ⟨wv, B, O⟩ := id P
    refine (settleI g (w.heap.size + 1) m wv i 1 0 0 false false _ B HH.out.2.1 (by omega) hq).mono ?_
    rintro e u' w3 ⟨rfl, rfl, SQ⟩
    exact ⟨.agg #[.int .i64 1, .int .i64 (m.ad : Int), .int .i64 m.may, .bool (m.va m.ad), .bool false], results_cell_row (t := 41) rfl _ _ (w.heap.size + 1) _ (fr := (0, 0)) _ rfl SQ.bk Try.underlying41 rfl infoPObs, rfl, run_fin P (ChS.of_below hb) hq (by omega) SQ hgl⟩
  by_cases hn : n < 0
  · clear hc
    go_wp2_with fail
    refine leaves_cons (f := 28) (args := #[.pointer (some ⟨g, 0, none⟩), .pointer (some ⟨w.heap.size + 1, 0, none⟩)]) (by simp) (by simp [go_sem]) ?_
    have hb : Below w.heap.size w ((w.alloc (.cells #[.int .i64 k, .int .i64 n, .int .i64 a, .slice ao dn cp] 43)).alloc (.cells #[.int .i64 1, .int .i64 0, .int .i64 0, .bool false, .bool false] 41)) := ((Below.refl _ _).alloc (Nat.le_refl _) _).alloc (by simp) _
    have P := HH.out.1.below hb
    have hq := (bk_new2 w (.cells #[.int .i64 k, .int .i64 n, .int .i64 a, .slice ao dn cp] 43) (.cells #[.int .i64 1, .int .i64 0, .int .i64 0, .bool false, .bool false] 41)).2
    obtain ⟨wv, B, O⟩ := id P
    refine (settleI g (w.heap.size + 1) m wv i 1 0 0 false false _ B HH.out.2.1 (by omega) hq).mono ?_
    rintro e u' w3 ⟨rfl, rfl, SQ⟩
    exact ⟨.agg #[.int .i64 1, .int .i64 (m.ad : Int), .int .i64 m.may, .bool (m.va m.ad), .bool false], results_cell_row (t := 41) rfl _ _ (w.heap.size + 1) _ (fr := (0, 0)) _ rfl SQ.bk Try.underlying41 rfl infoPObs, rfl, run_fin P (ChS.of_below hb) hq (by omega) SQ hgl⟩
  have hn2 : 2000 < n := by omega
  clear hc
  · go_wp2_with fail
    refine leaves_cons (f := 28) (args := #[.pointer (some ⟨g, 0, none⟩), .pointer (some ⟨w.heap.size + 1, 0, none⟩)]) (by simp) (by simp [go_sem]) ?_
    have hb : Below w.heap.size w ((w.alloc (.cells #[.int .i64 k, .int .i64 n, .int .i64 a, .slice ao dn cp] 43)).alloc (.cells #[.int .i64 1, .int .i64 0, .int .i64 0, .bool false, .bool false] 41)) := ((Below.refl _ _).alloc (Nat.le_refl _) _).alloc (by simp) _
    have P := HH.out.1.below hb
    have hq := (bk_new2 w (.cells #[.int .i64 k, .int .i64 n, .int .i64 a, .slice ao dn cp] 43) (.cells #[.int .i64 1, .int .i64 0, .int .i64 0, .bool false, .bool false] 41)).2
    obtain ⟨wv, B, O⟩ := id P
    refine (settleI g (w.heap.size + 1) m wv i 1 0 0 false false _ B HH.out.2.1 (by omega) hq).mono ?_
    rintro e u' w3 ⟨rfl, rfl, SQ⟩
    exact ⟨.agg #[.int .i64 1, .int .i64 (m.ad : Int), .int .i64 m.may, .bool (m.va m.ad), .bool false], results_cell_row (t := 41) rfl _ _ (w.heap.size + 1) _ (fr := (0, 0)) _ rfl SQ.bk Try.underlying41 rfl infoPObs, rfl, run_fin P (ChS.of_below hb) hq (by omega) SQ hgl⟩

set_option maxRecDepth 20000 in
set_option maxHeartbeats 4000000 in
theorem run_came (g base : Nat) (m : PX) (o : SPathOp) (dv : Value) (i : Nat) (w : World) (h : PRep w g base m) (hg : base ≤ g) (hI : PXI i m) (hi : i < 300) (hr : Row w .u8 dv o.f3) (hl : o.f3.length ≤ 1048576) (hbase : base ≤ w.heap.size) (hby : ∀ x ∈ o.f3, 0 ≤ x ∧ x < 256)
    (hc : ¬ (o.f2 < 0 ∨ 255 < o.f2 ∨ o.f1 < 0 ∨ 2000 < o.f1)) (hk : o.f0 = 1) :
    Calls Try.prog 20 #[.pointer (some ⟨g, 0, none⟩), .agg #[.int .i64 o.f0, .int .i64 o.f1, .int .i64 o.f2, dv]] w fun e w' => e = .returned (.agg #[.int .i64 (pobs (pstep m o)).f0, .int .i64 (pobs (pstep m o)).f1, .int .i64 (pobs (pstep m o)).f2, .bool (pobs (pstep m o)).f3, .bool (pobs (pstep m o)).f4]) ∧ PDo g base w w' (pstep m o).1 := by
  obtain ⟨k, n, a, D⟩ := o
  dsimp only at *
  have hgl : g < w.heap.size := by obtain ⟨wv, B, _⟩ := h; exact B.lt
  obtain ⟨A, rfl⟩ : ∃ A : Nat, a = (A : Int) := ⟨a.toNat, by omega⟩
  have hA : A < 256 := by omega
  have hn : 0 ≤ n ∧ n ≤ 2000 := by omega
  subst hk
  obtain ⟨m', em⟩ : ∃ m', m' = if m.srv = false ∧ (A : Int) ≠ m.ad then m else { m with ad := A, cm := updF m.cm A (m.cm A + n) } := ⟨_, rfl⟩
  obtain ⟨cd, ecd⟩ : ∃ cd : Int, cd = if m.srv = false ∧ (A : Int) ≠ m.ad then 7 else 0 := ⟨_, rfl⟩
  have es : pstep m ⟨1, n, (A : Int), D⟩ = (m', cd, false) := by
    rw [em, ecd]
    unfold pstep
    dsimp only
    rw [if_neg hc]
    rw [if_pos rfl]
    split <;> rfl
  have hI' : PXI (i + 1) m' := by have t := hI.step ⟨1, n, (A : Int), D⟩ hby; rw [es] at t; exact t
  rw [es]
  have B1 := opW_below w ⟨1, n, (A : Int), D⟩ dv
  have K1 := opW_bk w ⟨1, n, (A : Int), D⟩ dv
  have P1 := h.below B1
  have CL := hearI g base m A n i _ P1 hg hI (by omega) hA hn
  rw [← em, ← ecd] at CL
  unfold opW at B1 K1 P1 CL
  dsimp only at B1 K1 P1 CL
  have h1 : ¬ (A : Int) < 0 := by omega
  have h2 : ¬ (256 : Int) ≤ (A : Int) := by omega
  have h3 : ¬ n < 0 := by omega
  have h4 : ¬ 2000 < n := by omega
  have hsz : w.heap.size ≤ w.heap.size + 1 := by omega
  have HH : Hid _ := And.intro B1 (And.intro K1 (And.intro P1 (And.intro hI' CL)))
  obtain ⟨ao, cp, ev⟩ := hr.form
  generalize D.length = dn at ev
  clear B1 K1 P1 h hI hI' hr es hby hl hc hn CL em ecd
  subst ev
  go_enter_defers Try.func20, Try.ntmps20
  go_wp2_with fail
  go_at_call 29
  refine HH.out.2.2.2.2.mono ?_
  rintro e w2 ⟨rfl, P2, C2⟩
  have hq2 := C2.bk HH.out.2.1.2 (Or.inr ⟨fun e => by omega, by decide⟩)
  have y0 : w2.cell? ⟨w.heap.size + 1, 0, none⟩ = some (.int .i64 0) := (bk_cell hq2 0).trans rfl
  have f0 := bk_free hq2 0
  have y1 : w2.cell? ⟨w.heap.size + 1, 1, none⟩ = some (.int .i64 0) := (bk_cell hq2 1).trans rfl
  have f1 := bk_free hq2 1
  have y2 : w2.cell? ⟨w.heap.size + 1, 2, none⟩ = some (.int .i64 0) := (bk_cell hq2 2).trans rfl
  have f2 := bk_free hq2 2
  have y3 : w2.cell? ⟨w.heap.size + 1, 3, none⟩ = some (.bool false) := (bk_cell hq2 3).trans rfl
  have f3 := bk_free hq2 3
  have y4 : w2.cell? ⟨w.heap.size + 1, 4, none⟩ = some (.bool false) := (bk_cell hq2 4).trans rfl
  have f4 := bk_free hq2 4
  have H2 : Hid _ := And.intro P2 (And.intro C2 hq2)
  clear P2 C2 hq2
  go_wp2_with fail
  have T0 : ObW g base (w.heap.size + 1) w w2 m' _ := ⟨H2.out.1, (ChS.of_below HH.out.1).trans H2.out.2.1, H2.out.2.2⟩
  have T := ((((((T0).set hsz hgl 0 (.int .i64 cd)).set hsz hgl 0 (.int .i64 cd)).set hsz hgl 1 (.int .i64 0)).set hsz hgl 2 (.int .i64 0)).set hsz hgl 3 (.bool false)).set hsz hgl 4 (.bool false)
  refine leaves_cons (f := 28) (args := #[.pointer (some ⟨g, 0, none⟩), .pointer (some ⟨w.heap.size + 1, 0, none⟩)]) (by simp) (by simp [go_sem]) ?_
  obtain ⟨wv, B, O⟩ := id T.P
  refine (settleI g (w.heap.size + 1) m' wv (i + 1) cd 0 0 false false _ B HH.out.2.2.2.1 (by omega) (T.hq.trans rfl)).mono ?_
  rintro e u' w3 ⟨rfl, rfl, SQ⟩
  exact ⟨.agg #[.int .i64 cd, .int .i64 (m'.ad : Int), .int .i64 m'.may, .bool (m'.va m'.ad), .bool false], results_cell_row (t := 41) rfl _ _ (w.heap.size + 1) _ (fr := (0, 0)) _ rfl SQ.bk Try.underlying41 rfl infoPObs, rfl, run_fin T.P T.C T.hq hsz SQ hgl⟩
set_option maxRecDepth 20000 in
set_option maxHeartbeats 4000000 in
theorem run_send (g base : Nat) (m : PX) (o : SPathOp) (dv : Value) (i : Nat) (w : World) (h : PRep w g base m) (hg : base ≤ g) (hI : PXI i m) (hi : i < 300) (hr : Row w .u8 dv o.f3) (hl : o.f3.length ≤ 1048576) (hbase : base ≤ w.heap.size) (hby : ∀ x ∈ o.f3, 0 ≤ x ∧ x < 256)
    (hc : ¬ (o.f2 < 0 ∨ 255 < o.f2 ∨ o.f1 < 0 ∨ 2000 < o.f1)) (hk : o.f0 = 2) :
    Calls Try.prog 20 #[.pointer (some ⟨g, 0, none⟩), .agg #[.int .i64 o.f0, .int .i64 o.f1, .int .i64 o.f2, dv]] w fun e w' => e = .returned (.agg #[.int .i64 (pobs (pstep m o)).f0, .int .i64 (pobs (pstep m o)).f1, .int .i64 (pobs (pstep m o)).f2, .bool (pobs (pstep m o)).f3, .bool (pobs (pstep m o)).f4]) ∧ PDo g base w w' (pstep m o).1 := by
  obtain ⟨k, n, a, D⟩ := o
  dsimp only at *
  have hgl : g < w.heap.size := by obtain ⟨wv, B, _⟩ := h; exact B.lt
  obtain ⟨A, rfl⟩ : ∃ A : Nat, a = (A : Int) := ⟨a.toNat, by omega⟩
  have hA : A < 256 := by omega
  have hn : 0 ≤ n ∧ n ≤ 2000 := by omega
  subst hk
  obtain ⟨m', em⟩ : ∃ m', m' = if m.may < n then m else { m with st := updF m.st m.ad (m.st m.ad + n) } := ⟨_, rfl⟩
  obtain ⟨cd, ecd⟩ : ∃ cd : Int, cd = if m.may < n then 8 else 0 := ⟨_, rfl⟩
  have es : pstep m ⟨2, n, (A : Int), D⟩ = (m', cd, false) := by
    rw [em, ecd]
    unfold pstep
    dsimp only
    rw [if_neg hc]
    rw [if_neg (by omega), if_pos rfl]
    split <;> rfl
  have hI' : PXI (i + 1) m' := by have t := hI.step ⟨2, n, (A : Int), D⟩ hby; rw [es] at t; exact t
  rw [es]
  have B1 := opW_below w ⟨2, n, (A : Int), D⟩ dv
  have K1 := opW_bk w ⟨2, n, (A : Int), D⟩ dv
  have P1 := h.below B1
  have CL := sendI g base m n i _ P1 hg hI (by omega) hn
  rw [← em, ← ecd] at CL
  unfold opW at B1 K1 P1 CL
  dsimp only at B1 K1 P1 CL
  have h1 : ¬ (A : Int) < 0 := by omega
  have h2 : ¬ (256 : Int) ≤ (A : Int) := by omega
  have h3 : ¬ n < 0 := by omega
  have h4 : ¬ 2000 < n := by omega
  have hsz : w.heap.size ≤ w.heap.size + 1 := by omega
  have HH : Hid _ := And.intro B1 (And.intro K1 (And.intro P1 (And.intro hI' CL)))
  obtain ⟨ao, cp, ev⟩ := hr.form
  generalize D.length = dn at ev
  clear B1 K1 P1 h hI hI' hr es hby hl hc hn CL em ecd
  subst ev
  go_enter_defers Try.func20, Try.ntmps20
  go_wp2_with fail
  go_at_call 30
  refine HH.out.2.2.2.2.mono ?_
  rintro e w2 ⟨rfl, P2, C2⟩
  have hq2 := C2.bk HH.out.2.1.2 (Or.inr ⟨fun e => by omega, by decide⟩)
  have y0 : w2.cell? ⟨w.heap.size + 1, 0, none⟩ = some (.int .i64 0) := (bk_cell hq2 0).trans rfl
  have f0 := bk_free hq2 0
  have y1 : w2.cell? ⟨w.heap.size + 1, 1, none⟩ = some (.int .i64 0) := (bk_cell hq2 1).trans rfl
  have f1 := bk_free hq2 1
  have y2 : w2.cell? ⟨w.heap.size + 1, 2, none⟩ = some (.int .i64 0) := (bk_cell hq2 2).trans rfl
  have f2 := bk_free hq2 2
  have y3 : w2.cell? ⟨w.heap.size + 1, 3, none⟩ = some (.bool false) := (bk_cell hq2 3).trans rfl
  have f3 := bk_free hq2 3
  have y4 : w2.cell? ⟨w.heap.size + 1, 4, none⟩ = some (.bool false) := (bk_cell hq2 4).trans rfl
  have f4 := bk_free hq2 4
  have H2 : Hid _ := And.intro P2 (And.intro C2 hq2)
  clear P2 C2 hq2
  go_wp2_with fail
  have T0 : ObW g base (w.heap.size + 1) w w2 m' _ := ⟨H2.out.1, (ChS.of_below HH.out.1).trans H2.out.2.1, H2.out.2.2⟩
  have T := ((((((T0).set hsz hgl 0 (.int .i64 cd)).set hsz hgl 0 (.int .i64 cd)).set hsz hgl 1 (.int .i64 0)).set hsz hgl 2 (.int .i64 0)).set hsz hgl 3 (.bool false)).set hsz hgl 4 (.bool false)
  refine leaves_cons (f := 28) (args := #[.pointer (some ⟨g, 0, none⟩), .pointer (some ⟨w.heap.size + 1, 0, none⟩)]) (by simp) (by simp [go_sem]) ?_
  obtain ⟨wv, B, O⟩ := id T.P
  refine (settleI g (w.heap.size + 1) m' wv (i + 1) cd 0 0 false false _ B HH.out.2.2.2.1 (by omega) (T.hq.trans rfl)).mono ?_
  rintro e u' w3 ⟨rfl, rfl, SQ⟩
  exact ⟨.agg #[.int .i64 cd, .int .i64 (m'.ad : Int), .int .i64 m'.may, .bool (m'.va m'.ad), .bool false], results_cell_row (t := 41) rfl _ _ (w.heap.size + 1) _ (fr := (0, 0)) _ rfl SQ.bk Try.underlying41 rfl infoPObs, rfl, run_fin T.P T.C T.hq hsz SQ hgl⟩
set_option maxRecDepth 20000 in
set_option maxHeartbeats 4000000 in
theorem run_chal (g base : Nat) (m : PX) (o : SPathOp) (dv : Value) (i : Nat) (w : World) (h : PRep w g base m) (hg : base ≤ g) (hI : PXI i m) (hi : i < 300) (hr : Row w .u8 dv o.f3) (hl : o.f3.length ≤ 1048576) (hbase : base ≤ w.heap.size) (hby : ∀ x ∈ o.f3, 0 ≤ x ∧ x < 256)
    (hc : ¬ (o.f2 < 0 ∨ 255 < o.f2 ∨ o.f1 < 0 ∨ 2000 < o.f1)) (hk : o.f0 = 3) :
    Calls Try.prog 20 #[.pointer (some ⟨g, 0, none⟩), .agg #[.int .i64 o.f0, .int .i64 o.f1, .int .i64 o.f2, dv]] w fun e w' => e = .returned (.agg #[.int .i64 (pobs (pstep m o)).f0, .int .i64 (pobs (pstep m o)).f1, .int .i64 (pobs (pstep m o)).f2, .bool (pobs (pstep m o)).f3, .bool (pobs (pstep m o)).f4]) ∧ PDo g base w w' (pstep m o).1 := by
  obtain ⟨k, n, a, D⟩ := o
  dsimp only at *
  have hgl : g < w.heap.size := by obtain ⟨wv, B, _⟩ := h; exact B.lt
  obtain ⟨A, rfl⟩ : ∃ A : Nat, a = (A : Int) := ⟨a.toNat, by omega⟩
  have hA : A < 256 := by omega
  have hn : 0 ≤ n ∧ n ≤ 2000 := by omega
  subst hk
  obtain ⟨m', em⟩ : ∃ m', m' = if D.length ≠ 8 then m else { m with ws := wpush m.ws (D, m.ad) } := ⟨_, rfl⟩
  obtain ⟨cd, ecd⟩ : ∃ cd : Int, cd = if D.length ≠ 8 then 1 else 0 := ⟨_, rfl⟩
  have es : pstep m ⟨3, n, (A : Int), D⟩ = (m', cd, false) := by
    rw [em, ecd]
    unfold pstep
    dsimp only
    rw [if_neg hc]
    rw [if_neg (by omega), if_neg (by omega), if_pos rfl]
    split <;> rfl
  have hI' : PXI (i + 1) m' := by have t := hI.step ⟨3, n, (A : Int), D⟩ hby; rw [es] at t; exact t
  rw [es]
  have B1 := opW_below w ⟨3, n, (A : Int), D⟩ dv
  have K1 := opW_bk w ⟨3, n, (A : Int), D⟩ dv
  have P1 := h.below B1
  have CL := chalI g base m dv D i _ P1 hg hI (hr.below B1) hl
  rw [← em, ← ecd] at CL
  unfold opW at B1 K1 P1 CL
  dsimp only at B1 K1 P1 CL
  have h1 : ¬ (A : Int) < 0 := by omega
  have h2 : ¬ (256 : Int) ≤ (A : Int) := by omega
  have h3 : ¬ n < 0 := by omega
  have h4 : ¬ 2000 < n := by omega
  have hsz : w.heap.size ≤ w.heap.size + 1 := by omega
  have HH : Hid _ := And.intro B1 (And.intro K1 (And.intro P1 (And.intro hI' CL)))
  obtain ⟨ao, cp, ev⟩ := hr.form
  generalize D.length = dn at ev
  clear B1 K1 P1 h hI hI' hr es hby hl hc hn CL em ecd
  subst ev
  go_enter_defers Try.func20, Try.ntmps20
  go_wp2_with fail
  go_at_call 31
  refine HH.out.2.2.2.2.mono ?_
  rintro e w2 ⟨rfl, P2, C2⟩
  have hq2 := C2.bk HH.out.2.1.2 (Or.inr ⟨fun e => by omega, by decide⟩)
  have y0 : w2.cell? ⟨w.heap.size + 1, 0, none⟩ = some (.int .i64 0) := (bk_cell hq2 0).trans rfl
  have f0 := bk_free hq2 0
  have y1 : w2.cell? ⟨w.heap.size + 1, 1, none⟩ = some (.int .i64 0) := (bk_cell hq2 1).trans rfl
  have f1 := bk_free hq2 1
  have y2 : w2.cell? ⟨w.heap.size + 1, 2, none⟩ = some (.int .i64 0) := (bk_cell hq2 2).trans rfl
  have f2 := bk_free hq2 2
  have y3 : w2.cell? ⟨w.heap.size + 1, 3, none⟩ = some (.bool false) := (bk_cell hq2 3).trans rfl
  have f3 := bk_free hq2 3
  have y4 : w2.cell? ⟨w.heap.size + 1, 4, none⟩ = some (.bool false) := (bk_cell hq2 4).trans rfl
  have f4 := bk_free hq2 4
  have H2 : Hid _ := And.intro P2 (And.intro C2 hq2)
  clear P2 C2 hq2
  go_wp2_with fail
  have T0 : ObW g base (w.heap.size + 1) w w2 m' _ := ⟨H2.out.1, (ChS.of_below HH.out.1).trans H2.out.2.1, H2.out.2.2⟩
  have T := ((((((T0).set hsz hgl 0 (.int .i64 cd)).set hsz hgl 0 (.int .i64 cd)).set hsz hgl 1 (.int .i64 0)).set hsz hgl 2 (.int .i64 0)).set hsz hgl 3 (.bool false)).set hsz hgl 4 (.bool false)
  refine leaves_cons (f := 28) (args := #[.pointer (some ⟨g, 0, none⟩), .pointer (some ⟨w.heap.size + 1, 0, none⟩)]) (by simp) (by simp [go_sem]) ?_
  obtain ⟨wv, B, O⟩ := id T.P
  refine (settleI g (w.heap.size + 1) m' wv (i + 1) cd 0 0 false false _ B HH.out.2.2.2.1 (by omega) (T.hq.trans rfl)).mono ?_
  rintro e u' w3 ⟨rfl, rfl, SQ⟩
  exact ⟨.agg #[.int .i64 cd, .int .i64 (m'.ad : Int), .int .i64 m'.may, .bool (m'.va m'.ad), .bool false], results_cell_row (t := 41) rfl _ _ (w.heap.size + 1) _ (fr := (0, 0)) _ rfl SQ.bk Try.underlying41 rfl infoPObs, rfl, run_fin T.P T.C T.hq hsz SQ hgl⟩
set_option maxRecDepth 20000 in
set_option maxHeartbeats 4000000 in
theorem run_answ (g base : Nat) (m : PX) (o : SPathOp) (dv : Value) (i : Nat) (w : World) (h : PRep w g base m) (hg : base ≤ g) (hI : PXI i m) (hi : i < 300) (hr : Row w .u8 dv o.f3) (hl : o.f3.length ≤ 1048576) (hbase : base ≤ w.heap.size) (hby : ∀ x ∈ o.f3, 0 ≤ x ∧ x < 256)
    (hc : ¬ (o.f2 < 0 ∨ 255 < o.f2 ∨ o.f1 < 0 ∨ 2000 < o.f1)) (hk : o.f0 = 4) :
    Calls Try.prog 20 #[.pointer (some ⟨g, 0, none⟩), .agg #[.int .i64 o.f0, .int .i64 o.f1, .int .i64 o.f2, dv]] w fun e w' => e = .returned (.agg #[.int .i64 (pobs (pstep m o)).f0, .int .i64 (pobs (pstep m o)).f1, .int .i64 (pobs (pstep m o)).f2, .bool (pobs (pstep m o)).f3, .bool (pobs (pstep m o)).f4]) ∧ PDo g base w w' (pstep m o).1 := by
  obtain ⟨k, n, a, D⟩ := o
  dsimp only at *
  have hgl : g < w.heap.size := by obtain ⟨wv, B, _⟩ := h; exact B.lt
  obtain ⟨A, rfl⟩ : ∃ A : Nat, a = (A : Int) := ⟨a.toNat, by omega⟩
  have hA : A < 256 := by omega
  have hn : 0 ≤ n ∧ n ≤ 2000 := by omega
  subst hk
  obtain ⟨m', em⟩ : ∃ m', m' = if D.length ≠ 8 then m else answM m D := ⟨_, rfl⟩
  obtain ⟨cd, ecd⟩ : ∃ cd : Int, cd = if D.length ≠ 8 then 1 else 0 := ⟨_, rfl⟩
  obtain ⟨an, ean⟩ : ∃ an : Bool, an = decide (D.length = 8 ∧ wat m.ws D < m.ws.length) := ⟨_, rfl⟩
  have es : pstep m ⟨4, n, (A : Int), D⟩ = (m', cd, an) := by
    rw [em, ecd, ean]
    unfold pstep
    dsimp only
    rw [if_neg hc]
    rw [if_neg (by omega), if_neg (by omega), if_neg (by omega), if_pos rfl]
    by_cases h8 : D.length = 8
    · have hn8 : ¬ D.length ≠ 8 := fun e => e h8
      simp only [if_neg hn8]
      unfold answM
      by_cases hf : wat m.ws D < m.ws.length
      · simp only [if_pos hf, decide_eq_true (show D.length = 8 ∧ wat m.ws D < m.ws.length from ⟨h8, hf⟩)]
      · simp only [if_neg hf, decide_eq_false (show ¬ (D.length = 8 ∧ wat m.ws D < m.ws.length) from fun e => hf e.2)]
    · have h8' : D.length ≠ 8 := h8
      simp only [if_pos h8', decide_eq_false (show ¬ (D.length = 8 ∧ wat m.ws D < m.ws.length) from fun e => h8 e.1)]
  have hI' : PXI (i + 1) m' := by have t := hI.step ⟨4, n, (A : Int), D⟩ hby; rw [es] at t; exact t
  rw [es]
  have B1 := opW_below w ⟨4, n, (A : Int), D⟩ dv
  have K1 := opW_bk w ⟨4, n, (A : Int), D⟩ dv
  have P1 := h.below B1
  have CL := answI g base m dv D i _ P1 hg hI (hr.below B1) hl (Nat.le_trans hbase B1.size)
  rw [← em, ← ecd, ← ean] at CL
  unfold opW at B1 K1 P1 CL
  dsimp only at B1 K1 P1 CL
  have h1 : ¬ (A : Int) < 0 := by omega
  have h2 : ¬ (256 : Int) ≤ (A : Int) := by omega
  have h3 : ¬ n < 0 := by omega
  have h4 : ¬ 2000 < n := by omega
  have hsz : w.heap.size ≤ w.heap.size + 1 := by omega
  have HH : Hid _ := And.intro B1 (And.intro K1 (And.intro P1 (And.intro hI' CL)))
  obtain ⟨ao, cp, ev⟩ := hr.form
  generalize D.length = dn at ev
  clear B1 K1 P1 h hI hI' hr es hby hl hc hn CL em ecd ean
  subst ev
  go_enter_defers Try.func20, Try.ntmps20
  go_wp2_with fail
  go_at_call 32
  refine HH.out.2.2.2.2.mono ?_
  rintro e w2 ⟨rfl, P2, C2⟩
  have hq2 := C2.bk HH.out.2.1.2 (Or.inr ⟨fun e => by omega, by decide⟩)
  have y0 : w2.cell? ⟨w.heap.size + 1, 0, none⟩ = some (.int .i64 0) := (bk_cell hq2 0).trans rfl
  have f0 := bk_free hq2 0
  have y1 : w2.cell? ⟨w.heap.size + 1, 1, none⟩ = some (.int .i64 0) := (bk_cell hq2 1).trans rfl
  have f1 := bk_free hq2 1
  have y2 : w2.cell? ⟨w.heap.size + 1, 2, none⟩ = some (.int .i64 0) := (bk_cell hq2 2).trans rfl
  have f2 := bk_free hq2 2
  have y3 : w2.cell? ⟨w.heap.size + 1, 3, none⟩ = some (.bool false) := (bk_cell hq2 3).trans rfl
  have f3 := bk_free hq2 3
  have y4 : w2.cell? ⟨w.heap.size + 1, 4, none⟩ = some (.bool false) := (bk_cell hq2 4).trans rfl
  have f4 := bk_free hq2 4
  have H2 : Hid _ := And.intro P2 (And.intro C2 hq2)
  clear P2 C2 hq2
  go_wp2_with fail
  have T0 : ObW g base (w.heap.size + 1) w w2 m' _ := ⟨H2.out.1, (ChS.of_below HH.out.1).trans H2.out.2.1, H2.out.2.2⟩
  have T := (((((((T0).set hsz hgl 4 (.bool an)).set hsz hgl 0 (.int .i64 cd)).set hsz hgl 0 (.int .i64 cd)).set hsz hgl 1 (.int .i64 0)).set hsz hgl 2 (.int .i64 0)).set hsz hgl 3 (.bool false)).set hsz hgl 4 (.bool an)
  refine leaves_cons (f := 28) (args := #[.pointer (some ⟨g, 0, none⟩), .pointer (some ⟨w.heap.size + 1, 0, none⟩)]) (by simp) (by simp [go_sem]) ?_
  obtain ⟨wv, B, O⟩ := id T.P
  refine (settleI g (w.heap.size + 1) m' wv (i + 1) cd 0 0 false an _ B HH.out.2.2.2.1 (by omega) (T.hq.trans rfl)).mono ?_
  rintro e u' w3 ⟨rfl, rfl, SQ⟩
  exact ⟨.agg #[.int .i64 cd, .int .i64 (m'.ad : Int), .int .i64 m'.may, .bool (m'.va m'.ad), .bool an], results_cell_row (t := 41) rfl _ _ (w.heap.size + 1) _ (fr := (0, 0)) _ rfl SQ.bk Try.underlying41 rfl infoPObs, rfl, run_fin T.P T.C T.hq hsz SQ hgl⟩
set_option maxRecDepth 20000 in
set_option maxHeartbeats 4000000 in
theorem run_other (g base : Nat) (m : PX) (o : SPathOp) (dv : Value) (i : Nat) (w : World) (h : PRep w g base m) (hg : base ≤ g) (hI : PXI i m) (hi : i < 300) (hr : Row w .u8 dv o.f3) (hl : o.f3.length ≤ 1048576) (hbase : base ≤ w.heap.size) (hby : ∀ x ∈ o.f3, 0 ≤ x ∧ x < 256)
    (hc : ¬ (o.f2 < 0 ∨ 255 < o.f2 ∨ o.f1 < 0 ∨ 2000 < o.f1)) (hk : o.f0 ≠ 1 ∧ o.f0 ≠ 2 ∧ o.f0 ≠ 3 ∧ o.f0 ≠ 4) :
    Calls Try.prog 20 #[.pointer (some ⟨g, 0, none⟩), .agg #[.int .i64 o.f0, .int .i64 o.f1, .int .i64 o.f2, dv]] w fun e w' => e = .returned (.agg #[.int .i64 (pobs (pstep m o)).f0, .int .i64 (pobs (pstep m o)).f1, .int .i64 (pobs (pstep m o)).f2, .bool (pobs (pstep m o)).f3, .bool (pobs (pstep m o)).f4]) ∧ PDo g base w w' (pstep m o).1 := by
  obtain ⟨k, n, a, D⟩ := o
  dsimp only at *
  have hgl : g < w.heap.size := by obtain ⟨wv, B, _⟩ := h; exact B.lt
  obtain ⟨A, rfl⟩ : ∃ A : Nat, a = (A : Int) := ⟨a.toNat, by omega⟩
  have hA : A < 256 := by omega
  have hn : 0 ≤ n ∧ n ≤ 2000 := by omega
  have es : pstep m ⟨k, n, (A : Int), D⟩ = (m, 1, false) := by
    unfold pstep
    dsimp only
    rw [if_neg hc]
    rw [if_neg hk.1, if_neg hk.2.1, if_neg hk.2.2.1, if_neg hk.2.2.2]
  have hI' : PXI (i + 1) m := by have t := hI.step ⟨k, n, (A : Int), D⟩ hby; rw [es] at t; exact t
  rw [es]
  have B1 := opW_below w ⟨k, n, (A : Int), D⟩ dv
  have K1 := opW_bk w ⟨k, n, (A : Int), D⟩ dv
  have P1 := h.below B1
  unfold opW at B1 K1 P1
  dsimp only at B1 K1 P1
  have h1 : ¬ (A : Int) < 0 := by omega
  have h2 : ¬ (256 : Int) ≤ (A : Int) := by omega
  have h3 : ¬ n < 0 := by omega
  have h4 : ¬ 2000 < n := by omega
  have hsz : w.heap.size ≤ w.heap.size + 1 := by omega
  have HH : Hid _ := And.intro B1 (And.intro K1 (And.intro P1 (And.intro hI' h)))
  obtain ⟨ao, cp, ev⟩ := hr.form
  generalize D.length = dn at ev
  clear B1 K1 P1 h hI hI' hr es hby hl hc hn  
  subst ev
  have n1 : (k == 1) = false := by simpa using hk.1
  have n2 : (k == 2) = false := by simpa using hk.2.1
  have n3 : (k == 3) = false := by simpa using hk.2.2.1
  have n4 : (k == 4) = false := by simpa using hk.2.2.2
  clear hk
  go_enter_defers Try.func20, Try.ntmps20
  go_wp2_with fail
  have hb : Below w.heap.size w ((w.alloc (.cells #[.int .i64 k, .int .i64 n, .int .i64 (A : Int), .slice ao dn cp] 43)).alloc (.cells #[.int .i64 1, .int .i64 0, .int .i64 0, .bool false, .bool false] 41)) := ((Below.refl _ _).alloc (Nat.le_refl _) _).alloc (by simp) _
  have T : ObW g base (w.heap.size + 1) w _ m _ := ⟨HH.out.2.2.2.2.below hb, ChS.of_below hb, (bk_new2 w _ _).2⟩
  refine leaves_cons (f := 28) (args := #[.pointer (some ⟨g, 0, none⟩), .pointer (some ⟨w.heap.size + 1, 0, none⟩)]) (by simp) (by simp [go_sem]) ?_
  obtain ⟨wv, B, O⟩ := id T.P
  refine (settleI g (w.heap.size + 1) m wv (i + 1) 1 0 0 false false _ B HH.out.2.2.2.1 (by omega) (T.hq.trans rfl)).mono ?_
  rintro e u' w3 ⟨rfl, rfl, SQ⟩
  exact ⟨.agg #[.int .i64 1, .int .i64 (m.ad : Int), .int .i64 m.may, .bool (m.va m.ad), .bool false], results_cell_row (t := 41) rfl _ _ (w.heap.size + 1) _ (fr := (0, 0)) _ rfl SQ.bk Try.underlying41 rfl infoPObs, rfl, run_fin T.P T.C T.hq hsz SQ hgl⟩
end Go.Proofs.Ytjikdecfampbiaa
