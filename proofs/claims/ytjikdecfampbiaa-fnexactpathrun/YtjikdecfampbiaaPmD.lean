import Derived.Test.YtjikdecfampbiaaPmC
namespace Go.Proofs.Ytjikdecfampbiaa
open Go.RowKit
set_option linter.unusedVariables false
set_option linter.unusedSimpArgs false

theorem MB.setO {W : World} {x c1 c2 c3 base q : Nat} {m : PX} {wv : Value} {Z : List ((List Int × Nat) × Value)} {c : Array Value} (h : MB W x c1 c2 c3 base m wv Z) (hb : W.heap[q]? = some (.cells c 41 (0, 0))) (o : Nat) (v : Value) : MB (W.setCell ⟨q, o, none⟩ v) x c1 c2 c3 base m wv Z := by
  have ty : ∀ (a : Nat) (A : Array Value) (T : TypeId), W.heap[a]? = some (.cells A T (0, 0)) → T ≠ 41 → a ≠ q := fun a A T ha hn e => by
    subst e
    rw [ha] at hb
    have e2 := Option.some.inj hb
    injection e2 with _ e3
    exact hn e3
  obtain ⟨A1, b1, _⟩ := h.r1
  obtain ⟨A2, b2, _⟩ := h.r2
  obtain ⟨A3, b3, _⟩ := h.r3
  exact ⟨(bk_other (ty _ _ _ h.bk (by decide)) o v).trans h.bk, h.r1.same (bk_other (ty _ _ _ b1 (by decide)) o v), h.r2.same (bk_other (ty _ _ _ b2 (by decide)) o v), h.r3.same (bk_other (ty _ _ _ b3 (by decide)) o v), h.ne, h.lo, h.zs, h.of.set hb (by decide), fun z hz => own_setT (h.ow z hz) hb (by decide)⟩
/-- Amid an operation of the model. -/
structure ObM (x c1 c2 c3 base : Nat) (w W : World) (m' : PX) (r1 r2 : Array Value) : Prop where
  P : MRp W x c1 c2 c3 base m'
  C : ChS (KS x c1 c2 c3) 75 base w W
  h1 : W.heap[w.heap.size + 1]? = some (.cells r1 41 (0, 0))
  h2 : W.heap[w.heap.size + 2]? = some (.cells r2 41 (0, 0))
theorem ObM.s1 {x c1 c2 c3 base : Nat} {w W : World} {m' : PX} {r1 r2 : Array Value} (h : ObM x c1 c2 c3 base w W m' r1 r2) (o : Nat) (v : Value) : ObM x c1 c2 c3 base w (W.setCell ⟨w.heap.size + 1, o, none⟩ v) m' (r1.setIfInBounds o v) r2 := by
  obtain ⟨wv, Z, P⟩ := h.P
  exact ⟨⟨wv, Z, P.setO h.h1 o v⟩, h.C.setN (by omega) o v, bk_set h.h1 o v, (bk_other (by omega) o v).trans h.h2⟩
theorem ObM.s2 {x c1 c2 c3 base : Nat} {w W : World} {m' : PX} {r1 r2 : Array Value} (h : ObM x c1 c2 c3 base w W m' r1 r2) (o : Nat) (v : Value) : ObM x c1 c2 c3 base w (W.setCell ⟨w.heap.size + 2, o, none⟩ v) m' r1 (r2.setIfInBounds o v) := by
  obtain ⟨wv, Z, P⟩ := h.P
  exact ⟨⟨wv, Z, P.setO h.h2 o v⟩, h.C.setN (by omega) o v, (bk_other (by omega) o v).trans h.h1, bk_set h.h2 o v⟩
theorem MRp.below {w w' : World} {x c1 c2 c3 base : Nat} {m : PX} (h : MRp w x c1 c2 c3 base m) (hb : Below w.heap.size w w') : MRp w' x c1 c2 c3 base m := by
  obtain ⟨wv, Z, P⟩ := h
  exact ⟨wv, Z, P.below hb⟩
theorem ObM.drew {x c1 c2 c3 base : Nat} {w W : World} {m' : PX} {r1 r2 : Array Value} (h : ObM x c1 c2 c3 base w W m' r1 r2) : ObM x c1 c2 c3 base w W.drew m' r1 r2 := by
  obtain ⟨wv, Z, P⟩ := h.P
  exact ⟨⟨wv, Z, P.below (below_drewN (Below.refl _ _) 1)⟩, h.C.drewN 1, h.h1, h.h2⟩
theorem bk_new3' (w : World) (o1 o2 o3 : Obj) : (((w.alloc o1).alloc o2).alloc o3).heap[w.heap.size + 1]? = some o2 ∧ (((w.alloc o1).alloc o2).alloc o3).heap[w.heap.size + 2]? = some o3 := ⟨(bk_new3 w o1 o2 o3).2.1, (bk_new3 w o1 o2 o3).2.2⟩
theorem below3 (w : World) (o1 o2 o3 : Obj) : Below w.heap.size w (((w.alloc o1).alloc o2).alloc o3) := (((Below.refl _ _).alloc (Nat.le_refl _) _).alloc (by simp) _).alloc (by simp; omega) _

set_option maxRecDepth 20000 in
set_option maxHeartbeats 4000000 in
theorem do_bad (x c1 c2 c3 base : Nat) (m : PX) (o : SPathOp) (dv : Value) (i : Nat) (w : World) (h : MRp w x c1 c2 c3 base m) (hI : PXI i m) (hi : i < 300) (hr : Row w .u8 dv o.f3) (hl : o.f3.length ≤ 1048576) (hbase : base ≤ w.heap.size) (hby : ∀ x ∈ o.f3, 0 ≤ x ∧ x < 256)
    (hc : o.f2 < 0 ∨ 255 < o.f2 ∨ o.f1 < 0 ∨ 2000 < o.f1 ∨ o.f0 < 1 ∨ 4 < o.f0 ∨ (3 ≤ o.f0 ∧ o.f3.length ≠ 8)) :
    Calls Try.prog 15 #[.pointer (some ⟨x, 0, none⟩), .agg #[.int .i64 o.f0, .int .i64 o.f1, .int .i64 o.f2, dv]] w fun e w' => e = .returned (.agg #[.int .i64 (pstep m o).2.1, .int .i64 0, .int .i64 0, .bool false, .bool (pstep m o).2.2]) ∧ MDo x c1 c2 c3 base w w' (pstep m o).1 := by
  have es : pstep m o = (m, 1, false) := by
    unfold pstep
    by_cases h1 : o.f2 < 0 ∨ 255 < o.f2 ∨ o.f1 < 0 ∨ 2000 < o.f1
    · rw [if_pos h1]
    rw [if_neg h1, if_neg (by omega), if_neg (by omega)]
    by_cases h3 : o.f0 = 3
    · rw [if_pos h3, if_pos (by omega)]
    rw [if_neg h3]
    by_cases h4 : o.f0 = 4
    · rw [if_pos h4, if_pos (by omega)]
    rw [if_neg h4]
  rw [es]
  obtain ⟨ao, cp, ev⟩ := hr.form
  generalize o.f3.length = dn at *
  subst ev
  obtain ⟨k, n, a, D⟩ := o
  dsimp only at *
  have HH : Hid _ := And.intro h (And.intro hI hr)
  clear h hI hr es hby hl
  go_enter Try.func15, Try.ntmps15
  by_cases ha : a < 0
  · clear hc
    go_wp2_with fail
    refine bodyPost_ret (v := .agg #[.int .i64 1, .int .i64 0, .int .i64 0, .bool false, .bool false]) ?_ rfl ?_
    · exact results_cell_row (t := 41) rfl _ _ (w.heap.size + 1) _ (fr := (0, 0)) _ rfl (bk_new3' w _ _ _).1 Try.underlying41 rfl infoPObs
    · exact ⟨rfl, HH.out.1.below (below3 w _ _ _), ChS.of_below (below3 w _ _ _)⟩
  by_cases ha2 : 255 < a
  · clear hc
    go_wp2_with fail
    refine bodyPost_ret (v := .agg #[.int .i64 1, .int .i64 0, .int .i64 0, .bool false, .bool false]) ?_ rfl ?_
    · exact results_cell_row (t := 41) rfl _ _ (w.heap.size + 1) _ (fr := (0, 0)) _ rfl (bk_new3' w _ _ _).1 Try.underlying41 rfl infoPObs
    · exact ⟨rfl, HH.out.1.below (below3 w _ _ _), ChS.of_below (below3 w _ _ _)⟩
  by_cases hn : n < 0
  · clear hc
    go_wp2_with fail
    refine bodyPost_ret (v := .agg #[.int .i64 1, .int .i64 0, .int .i64 0, .bool false, .bool false]) ?_ rfl ?_
    · exact results_cell_row (t := 41) rfl _ _ (w.heap.size + 1) _ (fr := (0, 0)) _ rfl (bk_new3' w _ _ _).1 Try.underlying41 rfl infoPObs
    · exact ⟨rfl, HH.out.1.below (below3 w _ _ _), ChS.of_below (below3 w _ _ _)⟩
  by_cases hn2 : 2000 < n
  · clear hc
    go_wp2_with fail
    refine bodyPost_ret (v := .agg #[.int .i64 1, .int .i64 0, .int .i64 0, .bool false, .bool false]) ?_ rfl ?_
    · exact results_cell_row (t := 41) rfl _ _ (w.heap.size + 1) _ (fr := (0, 0)) _ rfl (bk_new3' w _ _ _).1 Try.underlying41 rfl infoPObs
    · exact ⟨rfl, HH.out.1.below (below3 w _ _ _), ChS.of_below (below3 w _ _ _)⟩
  by_cases hk : k < 1
  · clear hc
    go_wp2_with fail
    refine bodyPost_ret (v := .agg #[.int .i64 1, .int .i64 0, .int .i64 0, .bool false, .bool false]) ?_ rfl ?_
    · exact results_cell_row (t := 41) rfl _ _ (w.heap.size + 1) _ (fr := (0, 0)) _ rfl (bk_new3' w _ _ _).1 Try.underlying41 rfl infoPObs
    · exact ⟨rfl, HH.out.1.below (below3 w _ _ _), ChS.of_below (below3 w _ _ _)⟩
  by_cases hk4 : 4 < k
  · clear hc
    go_wp2_with fail
    refine bodyPost_ret (v := .agg #[.int .i64 1, .int .i64 0, .int .i64 0, .bool false, .bool false]) ?_ rfl ?_
    · exact results_cell_row (t := 41) rfl _ _ (w.heap.size + 1) _ (fr := (0, 0)) _ rfl (bk_new3' w _ _ _).1 Try.underlying41 rfl infoPObs
    · exact ⟨rfl, HH.out.1.below (below3 w _ _ _), ChS.of_below (below3 w _ _ _)⟩
  have hk3 : 3 ≤ k := by omega
  have hd : ((dn : Int) != 8) = true := by simp; omega
  clear hc
  · go_wp2_with fail
    refine bodyPost_ret (v := .agg #[.int .i64 1, .int .i64 0, .int .i64 0, .bool false, .bool false]) ?_ rfl ?_
    · exact results_cell_row (t := 41) rfl _ _ (w.heap.size + 1) _ (fr := (0, 0)) _ rfl (bk_new3' w _ _ _).1 Try.underlying41 rfl infoPObs
    · exact ⟨rfl, HH.out.1.below (below3 w _ _ _), ChS.of_below (below3 w _ _ _)⟩
set_option maxRecDepth 20000 in
set_option maxHeartbeats 4000000 in
theorem do_came0 (x c1 c2 c3 base : Nat) (m : PX) (o : SPathOp) (dv : Value) (i : Nat) (w : World) (h : MRp w x c1 c2 c3 base m) (hI : PXI i m) (hi : i < 300) (hr : Row w .u8 dv o.f3) (hl : o.f3.length ≤ 1048576) (hbase : base ≤ w.heap.size) (hby : ∀ x ∈ o.f3, 0 ≤ x ∧ x < 256)
    (hc : ¬ (o.f2 < 0 ∨ 255 < o.f2 ∨ o.f1 < 0 ∨ 2000 < o.f1)) (hk : o.f0 = 1) (hs : m.srv = false ∧ o.f2 ≠ (m.ad : Int)) :
    Calls Try.prog 15 #[.pointer (some ⟨x, 0, none⟩), .agg #[.int .i64 o.f0, .int .i64 o.f1, .int .i64 o.f2, dv]] w fun e w' => e = .returned (.agg #[.int .i64 (pstep m o).2.1, .int .i64 0, .int .i64 0, .bool false, .bool (pstep m o).2.2]) ∧ MDo x c1 c2 c3 base w w' (pstep m o).1 := by
  obtain ⟨k, n, a, D⟩ := o
  dsimp only at *
  obtain ⟨A, rfl⟩ : ∃ A : Nat, a = (A : Int) := ⟨a.toNat, by omega⟩
  have hA : A < 256 := by omega
  have hAI : (A : Int) < 256 := by omega
  have hn : 0 ≤ n ∧ n ≤ 2000 := by omega
  subst hk
  have es : pstep m ⟨1, n, (A : Int), D⟩ = (m, 7, false) := by
    unfold pstep
    dsimp only
    rw [if_neg hc, if_pos rfl, if_pos hs]
  rw [es]
  have h1 : ¬ (A : Int) < 0 := by omega
  have h2 : ¬ (255 : Int) < (A : Int) := by omega
  have h3 : ¬ n < 0 := by omega
  have h4 : ¬ 2000 < n := by omega
  have ha := hI.ad
  obtain ⟨wv, Z, hM⟩ := id h
  obtain ⟨d0, d1, d2, d3, d4, d5⟩ := hM.cells
  have hx := (Array.getElem?_eq_some_iff.1 hM.bk).1
  have l1 := hM.r1.lt
  have l2 := hM.r2.lt
  have l3 := hM.r3.lt
  obtain ⟨W0, eW0⟩ : ∃ W0, W0 = ((w.alloc (.cells #[.int .i64 1, .int .i64 n, .int .i64 (A : Int), dv] 43)).alloc (.cells #[.int .i64 0, .int .i64 0, .int .i64 0, .bool false, .bool false] 41)).alloc (.cells #[.int .i64 0, .int .i64 0, .int .i64 0, .bool false, .bool false] 41) := ⟨_, rfl⟩
  have bW0 : Below w.heap.size w W0 := by rw [eW0]; exact below3 w _ _ _
  obtain ⟨e0, e1, e2, e3, e4, e5⟩ := (hM.below bW0).cells
  have kW : W0.heap[w.heap.size]? = some (.cells #[.int .i64 1, .int .i64 n, .int .i64 (A : Int), dv] 43 (0, 0)) := by rw [eW0]; exact (bk_new3 w _ _ _).1
  have p1 : W0.cell? ⟨w.heap.size, 1, none⟩ = some (.int .i64 n) := (bk_cell kW 1).trans rfl
  have p2 : W0.cell? ⟨w.heap.size, 2, none⟩ = some (.int .i64 (A : Int)) := (bk_cell kW 2).trans rfl
  have p3 : W0.cell? ⟨w.heap.size, 3, none⟩ = some dv := (bk_cell kW 3).trans rfl
  have HB : Hid _ := And.intro bW0 (And.intro (hM.below bW0) kW)
  rw [eW0] at HB e0 e1 e2 e3 e4 p1 p2 p3
  clear bW0 kW e5 eW0
  rw [hs.1] at d0 e0
  have hne : ((A : Int) != (m.ad : Int)) = true := by simpa using hs.2
  obtain ⟨ao, cp, ev⟩ := hr.form
  generalize D.length = dn at *
  generalize m.ad = ad at *
  clear h hI hr es hby hl hM hc hs hn d2 d3 d4 d5 e2 e3 e4 p1 p3
  subst ev
  go_enter Try.func15, Try.ntmps15
  go_wp2_with fail
  go_quiet (fail)
  go_wp2_with fail
  have T0 : ObM x c1 c2 c3 base w _ m #[.int .i64 0, .int .i64 0, .int .i64 0, .bool false, .bool false] #[.int .i64 0, .int .i64 0, .int .i64 0, .bool false, .bool false] := ⟨⟨wv, Z, HB.out.2.1.below (below_drewN (Below.refl _ _) nq)⟩, (ChS.of_below HB.out.1).drewN nq, (bk_new3' w _ _ _).1, (bk_new3' w _ _ _).2⟩
  have T := ((((((T0).s2 0 (.int .i64 7)).s1 0 (.int .i64 7)).s1 1 (.int .i64 0)).s1 2 (.int .i64 0)).s1 3 (.bool false)).s1 4 (.bool false)
  refine bodyPost_ret (v := .agg #[.int .i64 7, .int .i64 0, .int .i64 0, .bool false, .bool false]) ?_ rfl ?_
  · exact results_cell_row (t := 41) rfl _ _ (w.heap.size + 1) _ (fr := (0, 0)) _ rfl (T.h1.trans rfl) Try.underlying41 rfl infoPObs
  · exact ⟨rfl, T.P, T.C⟩
set_option maxRecDepth 20000 in
set_option maxHeartbeats 4000000 in
theorem do_came1 (x c1 c2 c3 base : Nat) (m : PX) (o : SPathOp) (dv : Value) (i : Nat) (w : World) (h : MRp w x c1 c2 c3 base m) (hI : PXI i m) (hi : i < 300) (hr : Row w .u8 dv o.f3) (hl : o.f3.length ≤ 1048576) (hbase : base ≤ w.heap.size) (hby : ∀ x ∈ o.f3, 0 ≤ x ∧ x < 256)
    (hc : ¬ (o.f2 < 0 ∨ 255 < o.f2 ∨ o.f1 < 0 ∨ 2000 < o.f1)) (hk : o.f0 = 1) (hs : m.srv = true) :
    Calls Try.prog 15 #[.pointer (some ⟨x, 0, none⟩), .agg #[.int .i64 o.f0, .int .i64 o.f1, .int .i64 o.f2, dv]] w fun e w' => e = .returned (.agg #[.int .i64 (pstep m o).2.1, .int .i64 0, .int .i64 0, .bool false, .bool (pstep m o).2.2]) ∧ MDo x c1 c2 c3 base w w' (pstep m o).1 := by
  obtain ⟨k, n, a, D⟩ := o
  dsimp only at *
  obtain ⟨A, rfl⟩ : ∃ A : Nat, a = (A : Int) := ⟨a.toNat, by omega⟩
  have hA : A < 256 := by omega
  have hAI : (A : Int) < 256 := by omega
  have hn : 0 ≤ n ∧ n ≤ 2000 := by omega
  subst hk
  have es : pstep m ⟨1, n, (A : Int), D⟩ = ({ m with ad := A, cm := updF m.cm A (m.cm A + n) }, 0, false) := by
    unfold pstep
    dsimp only
    rw [if_neg hc, if_pos rfl, if_neg (by first | (rw [hs]; simp) | (exact fun q => q.2 hs.2))]
    rfl
  rw [es]
  have h1 : ¬ (A : Int) < 0 := by omega
  have h2 : ¬ (255 : Int) < (A : Int) := by omega
  have h3 : ¬ n < 0 := by omega
  have h4 : ¬ 2000 < n := by omega
  have ha := hI.ad
  obtain ⟨wv, Z, hM⟩ := id h
  obtain ⟨d0, d1, d2, d3, d4, d5⟩ := hM.cells
  have hx := (Array.getElem?_eq_some_iff.1 hM.bk).1
  have l1 := hM.r1.lt
  have l2 := hM.r2.lt
  have l3 := hM.r3.lt
  obtain ⟨W0, eW0⟩ : ∃ W0, W0 = ((w.alloc (.cells #[.int .i64 1, .int .i64 n, .int .i64 (A : Int), dv] 43)).alloc (.cells #[.int .i64 0, .int .i64 0, .int .i64 0, .bool false, .bool false] 41)).alloc (.cells #[.int .i64 0, .int .i64 0, .int .i64 0, .bool false, .bool false] 41) := ⟨_, rfl⟩
  have bW0 : Below w.heap.size w W0 := by rw [eW0]; exact below3 w _ _ _
  obtain ⟨e0, e1, e2, e3, e4, e5⟩ := (hM.below bW0).cells
  have kW : W0.heap[w.heap.size]? = some (.cells #[.int .i64 1, .int .i64 n, .int .i64 (A : Int), dv] 43 (0, 0)) := by rw [eW0]; exact (bk_new3 w _ _ _).1
  have p1 : W0.cell? ⟨w.heap.size, 1, none⟩ = some (.int .i64 n) := (bk_cell kW 1).trans rfl
  have p2 : W0.cell? ⟨w.heap.size, 2, none⟩ = some (.int .i64 (A : Int)) := (bk_cell kW 2).trans rfl
  have p3 : W0.cell? ⟨w.heap.size, 3, none⟩ = some dv := (bk_cell kW 3).trans rfl
  have HB : Hid _ := And.intro bW0 (And.intro (hM.below bW0) kW)
  rw [eW0] at HB e0 e1 e2 e3 e4 p1 p2 p3
  clear bW0 kW e5 eW0
  rw [hs] at d0 e0
  have hMW := HB.out.2.1
  have y1 := hMW.r1.cell A hA
  have g1 := hMW.r1.free A
  have gx := bk_free hMW.bk 1
  have hcm := hI.cm A
  have hlo := hM.lo
  obtain ⟨n1, n2, n3, n4, n5⟩ := hM.x12
  have n1' : ¬ c1 = x := fun e => n1 e.symm
  have HZ : Hid _ := And.intro hMW.zs (And.intro hMW.of (And.intro hMW.ow hMW))
  obtain ⟨cx, ecx⟩ : ∃ cx, cx = m.cm A := ⟨_, rfl⟩
  rw [← ecx] at y1 hcm ⊢
  have hcm0 := hcm.1
  have hcm1 : cx ≤ 600000 := by omega
  have HE : Hid _ := ecx
  obtain ⟨ao, cp, ev⟩ := hr.form
  generalize D.length = dn at *
  clear h hI hr es hby hl hM hc hs hn d3 d4 d5 e3 e4 p3 hMW hcm ecx
  subst ev
  go_enter Try.func15, Try.ntmps15
  go_wp2_with fail
  go_quiet (fail)
  go_wp2_with fail
  go_region
  go_wp2_with fail
  have Ma := (HB.out.2.1.below (below_drewN (Below.refl _ _) nq)).setX 1 (.int .i64 (A : Int)) (m' := { m with ad := A }) (wv' := wv) (Z' := Z) rfl rfl rfl rfl HZ.out.1 HZ.out.2.1 HZ.out.2.2.1
  have Mb := Ma.setC A (cx + n)
  have T0 : ObM x c1 c2 c3 base w _ { m with ad := A, cm := updF m.cm A (cx + n) } #[.int .i64 0, .int .i64 0, .int .i64 0, .bool false, .bool false] #[.int .i64 0, .int .i64 0, .int .i64 0, .bool false, .bool false] := ⟨⟨wv, Z, Mb⟩, (((ChS.of_below HB.out.1).drewN nq).setK x (Or.inl rfl) hlo.1 1 (.int .i64 (A : Int))).setK c1 (Or.inr (Or.inl rfl)) hlo.2.1 A (.int .i64 (cx + n)), (bk_other (by omega) _ _).trans ((bk_other (by omega) _ _).trans (bk_new3' w _ _ _).1), (bk_other (by omega) _ _).trans ((bk_other (by omega) _ _).trans (bk_new3' w _ _ _).2)⟩
  have T := ((((((T0).s1 0 (.int .i64 0)).s1 1 (.int .i64 0)).s1 2 (.int .i64 0)).s1 3 (.bool false)).s1 4 (.bool false)).drew
  refine bodyPost_ret (v := .agg #[.int .i64 0, .int .i64 0, .int .i64 0, .bool false, .bool false]) ?_ rfl ?_
  · exact results_cell_row (t := 41) rfl _ _ (w.heap.size + 1) _ (fr := (0, 0)) _ rfl (T.h1.trans rfl) Try.underlying41 rfl infoPObs
  · exact ⟨rfl, T.P, T.C⟩
set_option maxRecDepth 20000 in
set_option maxHeartbeats 4000000 in
theorem do_came2 (x c1 c2 c3 base : Nat) (m : PX) (o : SPathOp) (dv : Value) (i : Nat) (w : World) (h : MRp w x c1 c2 c3 base m) (hI : PXI i m) (hi : i < 300) (hr : Row w .u8 dv o.f3) (hl : o.f3.length ≤ 1048576) (hbase : base ≤ w.heap.size) (hby : ∀ x ∈ o.f3, 0 ≤ x ∧ x < 256)
    (hc : ¬ (o.f2 < 0 ∨ 255 < o.f2 ∨ o.f1 < 0 ∨ 2000 < o.f1)) (hk : o.f0 = 1) (hs : m.srv = false ∧ o.f2 = (m.ad : Int)) :
    Calls Try.prog 15 #[.pointer (some ⟨x, 0, none⟩), .agg #[.int .i64 o.f0, .int .i64 o.f1, .int .i64 o.f2, dv]] w fun e w' => e = .returned (.agg #[.int .i64 (pstep m o).2.1, .int .i64 0, .int .i64 0, .bool false, .bool (pstep m o).2.2]) ∧ MDo x c1 c2 c3 base w w' (pstep m o).1 := by
  obtain ⟨k, n, a, D⟩ := o
  dsimp only at *
  obtain ⟨A, rfl⟩ : ∃ A : Nat, a = (A : Int) := ⟨a.toNat, by omega⟩
  have hA : A < 256 := by omega
  have hAI : (A : Int) < 256 := by omega
  have hn : 0 ≤ n ∧ n ≤ 2000 := by omega
  subst hk
  have es : pstep m ⟨1, n, (A : Int), D⟩ = ({ m with ad := A, cm := updF m.cm A (m.cm A + n) }, 0, false) := by
    unfold pstep
    dsimp only
    rw [if_neg hc, if_pos rfl, if_neg (by first | (rw [hs]; simp) | (exact fun q => q.2 hs.2))]
    rfl
  rw [es]
  have h1 : ¬ (A : Int) < 0 := by omega
  have h2 : ¬ (255 : Int) < (A : Int) := by omega
  have h3 : ¬ n < 0 := by omega
  have h4 : ¬ 2000 < n := by omega
  have ha := hI.ad
  obtain ⟨wv, Z, hM⟩ := id h
  obtain ⟨d0, d1, d2, d3, d4, d5⟩ := hM.cells
  have hx := (Array.getElem?_eq_some_iff.1 hM.bk).1
  have l1 := hM.r1.lt
  have l2 := hM.r2.lt
  have l3 := hM.r3.lt
  obtain ⟨W0, eW0⟩ : ∃ W0, W0 = ((w.alloc (.cells #[.int .i64 1, .int .i64 n, .int .i64 (A : Int), dv] 43)).alloc (.cells #[.int .i64 0, .int .i64 0, .int .i64 0, .bool false, .bool false] 41)).alloc (.cells #[.int .i64 0, .int .i64 0, .int .i64 0, .bool false, .bool false] 41) := ⟨_, rfl⟩
  have bW0 : Below w.heap.size w W0 := by rw [eW0]; exact below3 w _ _ _
  obtain ⟨e0, e1, e2, e3, e4, e5⟩ := (hM.below bW0).cells
  have kW : W0.heap[w.heap.size]? = some (.cells #[.int .i64 1, .int .i64 n, .int .i64 (A : Int), dv] 43 (0, 0)) := by rw [eW0]; exact (bk_new3 w _ _ _).1
  have p1 : W0.cell? ⟨w.heap.size, 1, none⟩ = some (.int .i64 n) := (bk_cell kW 1).trans rfl
  have p2 : W0.cell? ⟨w.heap.size, 2, none⟩ = some (.int .i64 (A : Int)) := (bk_cell kW 2).trans rfl
  have p3 : W0.cell? ⟨w.heap.size, 3, none⟩ = some dv := (bk_cell kW 3).trans rfl
  have HB : Hid _ := And.intro bW0 (And.intro (hM.below bW0) kW)
  rw [eW0] at HB e0 e1 e2 e3 e4 p1 p2 p3
  clear bW0 kW e5 eW0
  rw [hs.1] at d0 e0
  have hne : ((A : Int) != (m.ad : Int)) = false := by simpa using hs.2
  have hMW := HB.out.2.1
  have y1 := hMW.r1.cell A hA
  have g1 := hMW.r1.free A
  have gx := bk_free hMW.bk 1
  have hcm := hI.cm A
  have hlo := hM.lo
  obtain ⟨n1, n2, n3, n4, n5⟩ := hM.x12
  have n1' : ¬ c1 = x := fun e => n1 e.symm
  have HZ : Hid _ := And.intro hMW.zs (And.intro hMW.of (And.intro hMW.ow hMW))
  obtain ⟨cx, ecx⟩ : ∃ cx, cx = m.cm A := ⟨_, rfl⟩
  rw [← ecx] at y1 hcm ⊢
  have hcm0 := hcm.1
  have hcm1 : cx ≤ 600000 := by omega
  have HE : Hid _ := ecx
  obtain ⟨ao, cp, ev⟩ := hr.form
  generalize D.length = dn at *
  clear h hI hr es hby hl hM hc hs hn d3 d4 d5 e3 e4 p3 hMW hcm ecx
  subst ev
  go_enter Try.func15, Try.ntmps15
  go_wp2_with fail
  go_quiet (fail)
  go_wp2_with fail
  go_region
  go_wp2_with fail
  have Ma := (HB.out.2.1.below (below_drewN (Below.refl _ _) nq)).setX 1 (.int .i64 (A : Int)) (m' := { m with ad := A }) (wv' := wv) (Z' := Z) rfl rfl rfl rfl HZ.out.1 HZ.out.2.1 HZ.out.2.2.1
  have Mb := Ma.setC A (cx + n)
  have T0 : ObM x c1 c2 c3 base w _ { m with ad := A, cm := updF m.cm A (cx + n) } #[.int .i64 0, .int .i64 0, .int .i64 0, .bool false, .bool false] #[.int .i64 0, .int .i64 0, .int .i64 0, .bool false, .bool false] := ⟨⟨wv, Z, Mb⟩, (((ChS.of_below HB.out.1).drewN nq).setK x (Or.inl rfl) hlo.1 1 (.int .i64 (A : Int))).setK c1 (Or.inr (Or.inl rfl)) hlo.2.1 A (.int .i64 (cx + n)), (bk_other (by omega) _ _).trans ((bk_other (by omega) _ _).trans (bk_new3' w _ _ _).1), (bk_other (by omega) _ _).trans ((bk_other (by omega) _ _).trans (bk_new3' w _ _ _).2)⟩
  have T := ((((((T0).s1 0 (.int .i64 0)).s1 1 (.int .i64 0)).s1 2 (.int .i64 0)).s1 3 (.bool false)).s1 4 (.bool false)).drew
  refine bodyPost_ret (v := .agg #[.int .i64 0, .int .i64 0, .int .i64 0, .bool false, .bool false]) ?_ rfl ?_
  · exact results_cell_row (t := 41) rfl _ _ (w.heap.size + 1) _ (fr := (0, 0)) _ rfl (T.h1.trans rfl) Try.underlying41 rfl infoPObs
  · exact ⟨rfl, T.P, T.C⟩
set_option maxRecDepth 20000 in
set_option maxHeartbeats 4000000 in
theorem do_send0 (x c1 c2 c3 base : Nat) (m : PX) (o : SPathOp) (dv : Value) (i : Nat) (w : World) (h : MRp w x c1 c2 c3 base m) (hI : PXI i m) (hi : i < 300) (hr : Row w .u8 dv o.f3) (hl : o.f3.length ≤ 1048576) (hbase : base ≤ w.heap.size) (hby : ∀ x ∈ o.f3, 0 ≤ x ∧ x < 256)
    (hc : ¬ (o.f2 < 0 ∨ 255 < o.f2 ∨ o.f1 < 0 ∨ 2000 < o.f1)) (hk : o.f0 = 2) (hs : m.may < o.f1) :
    Calls Try.prog 15 #[.pointer (some ⟨x, 0, none⟩), .agg #[.int .i64 o.f0, .int .i64 o.f1, .int .i64 o.f2, dv]] w fun e w' => e = .returned (.agg #[.int .i64 (pstep m o).2.1, .int .i64 0, .int .i64 0, .bool false, .bool (pstep m o).2.2]) ∧ MDo x c1 c2 c3 base w w' (pstep m o).1 := by
  obtain ⟨k, n, a, D⟩ := o
  dsimp only at *
  obtain ⟨A, rfl⟩ : ∃ A : Nat, a = (A : Int) := ⟨a.toNat, by omega⟩
  have hA : A < 256 := by omega
  have hAI : (A : Int) < 256 := by omega
  have hn : 0 ≤ n ∧ n ≤ 2000 := by omega
  subst hk
  have es : pstep m ⟨2, n, (A : Int), D⟩ = (m, 8, false) := by
    unfold pstep
    dsimp only
    rw [if_neg hc, if_neg (by omega), if_pos rfl, if_pos hs]
  rw [es]
  have h1 : ¬ (A : Int) < 0 := by omega
  have h2 : ¬ (255 : Int) < (A : Int) := by omega
  have h3 : ¬ n < 0 := by omega
  have h4 : ¬ 2000 < n := by omega
  have ha := hI.ad
  obtain ⟨wv, Z, hM⟩ := id h
  obtain ⟨d0, d1, d2, d3, d4, d5⟩ := hM.cells
  have hx := (Array.getElem?_eq_some_iff.1 hM.bk).1
  have l1 := hM.r1.lt
  have l2 := hM.r2.lt
  have l3 := hM.r3.lt
  obtain ⟨W0, eW0⟩ : ∃ W0, W0 = ((w.alloc (.cells #[.int .i64 2, .int .i64 n, .int .i64 (A : Int), dv] 43)).alloc (.cells #[.int .i64 0, .int .i64 0, .int .i64 0, .bool false, .bool false] 41)).alloc (.cells #[.int .i64 0, .int .i64 0, .int .i64 0, .bool false, .bool false] 41) := ⟨_, rfl⟩
  have bW0 : Below w.heap.size w W0 := by rw [eW0]; exact below3 w _ _ _
  obtain ⟨e0, e1, e2, e3, e4, e5⟩ := (hM.below bW0).cells
  have kW : W0.heap[w.heap.size]? = some (.cells #[.int .i64 2, .int .i64 n, .int .i64 (A : Int), dv] 43 (0, 0)) := by rw [eW0]; exact (bk_new3 w _ _ _).1
  have p1 : W0.cell? ⟨w.heap.size, 1, none⟩ = some (.int .i64 n) := (bk_cell kW 1).trans rfl
  have p2 : W0.cell? ⟨w.heap.size, 2, none⟩ = some (.int .i64 (A : Int)) := (bk_cell kW 2).trans rfl
  have p3 : W0.cell? ⟨w.heap.size, 3, none⟩ = some dv := (bk_cell kW 3).trans rfl
  have HB : Hid _ := And.intro bW0 (And.intro (hM.below bW0) kW)
  rw [eW0] at HB e0 e1 e2 e3 e4 p1 p2 p3
  clear bW0 kW e5 eW0
  have CM : ∀ W : World, Below w.heap.size w W → Calls Try.prog 16 #[.pointer (some ⟨x, 0, none⟩)] W fun e w' => e = .returned (.int .i64 m.may) ∧ ∃ n, w' = W.drewN n := fun W hW => mayM x c1 c2 c3 base m wv Z i W (hM.below hW) hI (by omega)
  have hmb := hI.may (by omega)
  obtain ⟨mm, emm⟩ : ∃ mm, mm = m.may := ⟨_, rfl⟩
  rw [← emm] at CM hs hmb
  have HM : Hid _ := And.intro CM emm
  obtain ⟨ao, cp, ev⟩ := hr.form
  generalize D.length = dn at *
  clear h hI hr es hby hl hM hc hn d2 d3 d4 d5 e2 e3 e4 p2 p3 CM emm hmb
  subst ev
  go_enter Try.func15, Try.ntmps15
  go_wp2_with fail
  go_quiet (first | (go_at_call 16; exact Calls.quiet_of (HM.out.1 _ (below_drewN (below3 w _ _ _) _))))
  go_wp2_with fail
  have T0 : ObM x c1 c2 c3 base w _ m #[.int .i64 0, .int .i64 0, .int .i64 0, .bool false, .bool false] #[.int .i64 0, .int .i64 0, .int .i64 0, .bool false, .bool false] := ⟨⟨wv, Z, HB.out.2.1.below (below_drewN (Below.refl _ _) nq)⟩, (ChS.of_below HB.out.1).drewN nq, (bk_new3' w _ _ _).1, (bk_new3' w _ _ _).2⟩
  have T := ((((((T0).s2 0 (.int .i64 8)).s1 0 (.int .i64 8)).s1 1 (.int .i64 0)).s1 2 (.int .i64 0)).s1 3 (.bool false)).s1 4 (.bool false)
  refine bodyPost_ret (v := .agg #[.int .i64 8, .int .i64 0, .int .i64 0, .bool false, .bool false]) ?_ rfl ?_
  · exact results_cell_row (t := 41) rfl _ _ (w.heap.size + 1) _ (fr := (0, 0)) _ rfl (T.h1.trans rfl) Try.underlying41 rfl infoPObs
  · exact ⟨rfl, T.P, T.C⟩
set_option maxRecDepth 20000 in
set_option maxHeartbeats 4000000 in
theorem do_send1 (x c1 c2 c3 base : Nat) (m : PX) (o : SPathOp) (dv : Value) (i : Nat) (w : World) (h : MRp w x c1 c2 c3 base m) (hI : PXI i m) (hi : i < 300) (hr : Row w .u8 dv o.f3) (hl : o.f3.length ≤ 1048576) (hbase : base ≤ w.heap.size) (hby : ∀ x ∈ o.f3, 0 ≤ x ∧ x < 256)
    (hc : ¬ (o.f2 < 0 ∨ 255 < o.f2 ∨ o.f1 < 0 ∨ 2000 < o.f1)) (hk : o.f0 = 2) (hs : ¬ m.may < o.f1) :
    Calls Try.prog 15 #[.pointer (some ⟨x, 0, none⟩), .agg #[.int .i64 o.f0, .int .i64 o.f1, .int .i64 o.f2, dv]] w fun e w' => e = .returned (.agg #[.int .i64 (pstep m o).2.1, .int .i64 0, .int .i64 0, .bool false, .bool (pstep m o).2.2]) ∧ MDo x c1 c2 c3 base w w' (pstep m o).1 := by
  obtain ⟨k, n, a, D⟩ := o
  dsimp only at *
  obtain ⟨A, rfl⟩ : ∃ A : Nat, a = (A : Int) := ⟨a.toNat, by omega⟩
  have hA : A < 256 := by omega
  have hAI : (A : Int) < 256 := by omega
  have hn : 0 ≤ n ∧ n ≤ 2000 := by omega
  subst hk
  have es : pstep m ⟨2, n, (A : Int), D⟩ = ({ m with st := updF m.st m.ad (m.st m.ad + n) }, 0, false) := by
    unfold pstep
    dsimp only
    rw [if_neg hc, if_neg (by omega), if_pos rfl, if_neg hs]
  rw [es]
  have h1 : ¬ (A : Int) < 0 := by omega
  have h2 : ¬ (255 : Int) < (A : Int) := by omega
  have h3 : ¬ n < 0 := by omega
  have h4 : ¬ 2000 < n := by omega
  have ha := hI.ad
  obtain ⟨wv, Z, hM⟩ := id h
  obtain ⟨d0, d1, d2, d3, d4, d5⟩ := hM.cells
  have hx := (Array.getElem?_eq_some_iff.1 hM.bk).1
  have l1 := hM.r1.lt
  have l2 := hM.r2.lt
  have l3 := hM.r3.lt
  obtain ⟨W0, eW0⟩ : ∃ W0, W0 = ((w.alloc (.cells #[.int .i64 2, .int .i64 n, .int .i64 (A : Int), dv] 43)).alloc (.cells #[.int .i64 0, .int .i64 0, .int .i64 0, .bool false, .bool false] 41)).alloc (.cells #[.int .i64 0, .int .i64 0, .int .i64 0, .bool false, .bool false] 41) := ⟨_, rfl⟩
  have bW0 : Below w.heap.size w W0 := by rw [eW0]; exact below3 w _ _ _
  obtain ⟨e0, e1, e2, e3, e4, e5⟩ := (hM.below bW0).cells
  have kW : W0.heap[w.heap.size]? = some (.cells #[.int .i64 2, .int .i64 n, .int .i64 (A : Int), dv] 43 (0, 0)) := by rw [eW0]; exact (bk_new3 w _ _ _).1
  have p1 : W0.cell? ⟨w.heap.size, 1, none⟩ = some (.int .i64 n) := (bk_cell kW 1).trans rfl
  have p2 : W0.cell? ⟨w.heap.size, 2, none⟩ = some (.int .i64 (A : Int)) := (bk_cell kW 2).trans rfl
  have p3 : W0.cell? ⟨w.heap.size, 3, none⟩ = some dv := (bk_cell kW 3).trans rfl
  have HB : Hid _ := And.intro bW0 (And.intro (hM.below bW0) kW)
  rw [eW0] at HB e0 e1 e2 e3 e4 p1 p2 p3
  clear bW0 kW e5 eW0
  have CM : ∀ W : World, Below w.heap.size w W → Calls Try.prog 16 #[.pointer (some ⟨x, 0, none⟩)] W fun e w' => e = .returned (.int .i64 m.may) ∧ ∃ n, w' = W.drewN n := fun W hW => mayM x c1 c2 c3 base m wv Z i W (hM.below hW) hI (by omega)
  have hmb := hI.may (by omega)
  obtain ⟨mm, emm⟩ : ∃ mm, mm = m.may := ⟨_, rfl⟩
  rw [← emm] at CM hs hmb
  have HM : Hid _ := And.intro CM emm
  have hMW := HB.out.2.1
  have y1 := hMW.r2.cell m.ad ha
  have g1 := hMW.r2.free m.ad
  have hcm := hI.st m.ad
  have hlo := hM.lo
  have HZ : Hid _ := hMW
  obtain ⟨cx, ecx⟩ : ∃ cx, cx = m.st m.ad := ⟨_, rfl⟩
  rw [← ecx] at y1 hcm ⊢
  have hcm0 := hcm.1
  have hcm1 : cx ≤ 600000 := by omega
  have hadI : (m.ad : Int) < 256 := by omega
  obtain ⟨ad, ead⟩ : ∃ ad, ad = m.ad := ⟨_, rfl⟩
  rw [← ead] at y1 g1 hadI e1 ha d1 ⊢
  have HE : Hid _ := And.intro ecx ead
  obtain ⟨ao, cp, ev⟩ := hr.form
  generalize D.length = dn at *
  clear h hI hr es hby hl hM hc hn d2 d3 d4 d5 e2 e4 p2 p3 hMW hcm ecx CM emm hmb ead
  subst ev
  go_enter Try.func15, Try.ntmps15
  go_wp2_with fail
  go_quiet (first | (go_at_call 16; exact Calls.quiet_of (HM.out.1 _ (below_drewN (below3 w _ _ _) _))))
  go_wp2_with fail
  go_region
  go_wp2_with fail
  have ead := HE.out.2
  subst ead
  have Mb := (HB.out.2.1.below (below_drewN (Below.refl _ _) (nq + 1))).setS m.ad (cx + n)
  have T0 : ObM x c1 c2 c3 base w _ { m with st := updF m.st m.ad (cx + n) } #[.int .i64 0, .int .i64 0, .int .i64 0, .bool false, .bool false] #[.int .i64 0, .int .i64 0, .int .i64 0, .bool false, .bool false] := ⟨⟨wv, Z, Mb⟩, ((ChS.of_below HB.out.1).drewN (nq + 1)).setK c2 (Or.inr (Or.inr (Or.inl rfl))) hlo.2.2.1 m.ad (.int .i64 (cx + n)), (bk_other (by omega) _ _).trans (bk_new3' w _ _ _).1, (bk_other (by omega) _ _).trans (bk_new3' w _ _ _).2⟩
  have T := (((((T0).s1 0 (.int .i64 0)).s1 1 (.int .i64 0)).s1 2 (.int .i64 0)).s1 3 (.bool false)).s1 4 (.bool false)
  refine bodyPost_ret (v := .agg #[.int .i64 0, .int .i64 0, .int .i64 0, .bool false, .bool false]) ?_ rfl ?_
  · exact results_cell_row (t := 41) rfl _ _ (w.heap.size + 1) _ (fr := (0, 0)) _ rfl (T.h1.trans rfl) Try.underlying41 rfl infoPObs
  · exact ⟨rfl, T.P, T.C⟩
set_option maxRecDepth 20000 in
set_option maxHeartbeats 4000000 in
theorem do_chal (x c1 c2 c3 base : Nat) (m : PX) (o : SPathOp) (dv : Value) (i : Nat) (w : World) (h : MRp w x c1 c2 c3 base m) (hI : PXI i m) (hi : i < 300) (hr : Row w .u8 dv o.f3) (hl : o.f3.length ≤ 1048576) (hbase : base ≤ w.heap.size) (hby : ∀ x ∈ o.f3, 0 ≤ x ∧ x < 256)
    (hc : ¬ (o.f2 < 0 ∨ 255 < o.f2 ∨ o.f1 < 0 ∨ 2000 < o.f1)) (hk : o.f0 = 3) (hs : o.f3.length = 8) :
    Calls Try.prog 15 #[.pointer (some ⟨x, 0, none⟩), .agg #[.int .i64 o.f0, .int .i64 o.f1, .int .i64 o.f2, dv]] w fun e w' => e = .returned (.agg #[.int .i64 (pstep m o).2.1, .int .i64 0, .int .i64 0, .bool false, .bool (pstep m o).2.2]) ∧ MDo x c1 c2 c3 base w w' (pstep m o).1 := by
  obtain ⟨k, n, a, D⟩ := o
  dsimp only at *
  obtain ⟨A, rfl⟩ : ∃ A : Nat, a = (A : Int) := ⟨a.toNat, by omega⟩
  have hA : A < 256 := by omega
  have hAI : (A : Int) < 256 := by omega
  have hn : 0 ≤ n ∧ n ≤ 2000 := by omega
  subst hk
  have es : pstep m ⟨3, n, (A : Int), D⟩ = ({ m with ws := wpush m.ws (D, m.ad) }, 0, false) := by
    unfold pstep
    dsimp only
    rw [if_neg hc, if_neg (by omega), if_neg (by omega), if_pos rfl, if_neg (by omega)]
  rw [es]
  have h1 : ¬ (A : Int) < 0 := by omega
  have h2 : ¬ (255 : Int) < (A : Int) := by omega
  have h3 : ¬ n < 0 := by omega
  have h4 : ¬ 2000 < n := by omega
  have ha := hI.ad
  obtain ⟨wv, Z, hM⟩ := id h
  obtain ⟨d0, d1, d2, d3, d4, d5⟩ := hM.cells
  have hx := (Array.getElem?_eq_some_iff.1 hM.bk).1
  have l1 := hM.r1.lt
  have l2 := hM.r2.lt
  have l3 := hM.r3.lt
  obtain ⟨W0, eW0⟩ : ∃ W0, W0 = ((w.alloc (.cells #[.int .i64 3, .int .i64 n, .int .i64 (A : Int), dv] 43)).alloc (.cells #[.int .i64 0, .int .i64 0, .int .i64 0, .bool false, .bool false] 41)).alloc (.cells #[.int .i64 0, .int .i64 0, .int .i64 0, .bool false, .bool false] 41) := ⟨_, rfl⟩
  have bW0 : Below w.heap.size w W0 := by rw [eW0]; exact below3 w _ _ _
  obtain ⟨e0, e1, e2, e3, e4, e5⟩ := (hM.below bW0).cells
  have kW : W0.heap[w.heap.size]? = some (.cells #[.int .i64 3, .int .i64 n, .int .i64 (A : Int), dv] 43 (0, 0)) := by rw [eW0]; exact (bk_new3 w _ _ _).1
  have p1 : W0.cell? ⟨w.heap.size, 1, none⟩ = some (.int .i64 n) := (bk_cell kW 1).trans rfl
  have p2 : W0.cell? ⟨w.heap.size, 2, none⟩ = some (.int .i64 (A : Int)) := (bk_cell kW 2).trans rfl
  have p3 : W0.cell? ⟨w.heap.size, 3, none⟩ = some dv := (bk_cell kW 3).trans rfl
  have HB : Hid _ := And.intro bW0 (And.intro (hM.below bW0) kW)
  rw [eW0] at HB e0 e1 e2 e3 e4 p1 p2 p3
  clear bW0 kW e5 eW0
  have hd8 : ((D.length : Int) != 8) = false := by simp; omega
  have CL := chalM x c1 c2 c3 base m dv D i _ ⟨wv, Z, HB.out.2.1⟩ hI (hr.below HB.out.1) hl (Nat.le_trans hbase HB.out.1.size)
  have HL : Hid _ := And.intro CL True.intro
  clear CL e0 e1 e2 e3 e4 d0 d1 d2 d3 d4 d5 p1 p2
  obtain ⟨m', em⟩ : ∃ m', m' = { m with ws := wpush m.ws (D, m.ad) } := ⟨_, rfl⟩
  obtain ⟨an, ean⟩ : ∃ an : Bool, an = false := ⟨_, rfl⟩
  rw [← em] at HL
  rw [← em, ← ean]
  obtain ⟨ao, cp, ev⟩ := hr.form
  generalize D.length = dn at *
  clear h hI hr es hby hl hM hc hs hn em
  subst ev
  go_enter Try.func15, Try.ntmps15
  go_wp2_with fail
  go_at_call 25
  refine HL.out.1.mono ?_
  rintro e w2 ⟨rfl, P2, C2⟩
  have nk : ∀ q, w.heap.size ≤ q → ¬ KS x c1 c2 c3 q := fun q hq e => by rcases e with e | e | e | e <;> omega
  have h21 := C2.bk (bk_new3' w _ _ _).1 (Or.inr ⟨nk _ (by omega), by decide⟩)
  have h22 := C2.bk (bk_new3' w _ _ _).2 (Or.inr ⟨nk _ (by omega), by decide⟩)
  have y0 : w2.cell? ⟨w.heap.size + 1, 0, none⟩ = some (.int .i64 0) := (bk_cell h21 0).trans rfl
  have f0 := bk_free h21 0
  have u0 : w2.cell? ⟨w.heap.size + 1 + 1, 0, none⟩ = some (.int .i64 0) := (bk_cell h22 0).trans rfl
  have v0 : w2.frozen? ⟨w.heap.size + 1 + 1, 0, none⟩ = false := bk_free h22 0
  have y1 : w2.cell? ⟨w.heap.size + 1, 1, none⟩ = some (.int .i64 0) := (bk_cell h21 1).trans rfl
  have f1 := bk_free h21 1
  have u1 : w2.cell? ⟨w.heap.size + 1 + 1, 1, none⟩ = some (.int .i64 0) := (bk_cell h22 1).trans rfl
  have v1 : w2.frozen? ⟨w.heap.size + 1 + 1, 1, none⟩ = false := bk_free h22 1
  have y2 : w2.cell? ⟨w.heap.size + 1, 2, none⟩ = some (.int .i64 0) := (bk_cell h21 2).trans rfl
  have f2 := bk_free h21 2
  have u2 : w2.cell? ⟨w.heap.size + 1 + 1, 2, none⟩ = some (.int .i64 0) := (bk_cell h22 2).trans rfl
  have v2 : w2.frozen? ⟨w.heap.size + 1 + 1, 2, none⟩ = false := bk_free h22 2
  have y3 : w2.cell? ⟨w.heap.size + 1, 3, none⟩ = some (.bool false) := (bk_cell h21 3).trans rfl
  have f3 := bk_free h21 3
  have u3 : w2.cell? ⟨w.heap.size + 1 + 1, 3, none⟩ = some (.bool false) := (bk_cell h22 3).trans rfl
  have v3 : w2.frozen? ⟨w.heap.size + 1 + 1, 3, none⟩ = false := bk_free h22 3
  have y4 : w2.cell? ⟨w.heap.size + 1, 4, none⟩ = some (.bool false) := (bk_cell h21 4).trans rfl
  have f4 := bk_free h21 4
  have u4 : w2.cell? ⟨w.heap.size + 1 + 1, 4, none⟩ = some (.bool false) := (bk_cell h22 4).trans rfl
  have v4 : w2.frozen? ⟨w.heap.size + 1 + 1, 4, none⟩ = false := bk_free h22 4
  have H2 : Hid _ := And.intro P2 (And.intro C2 (And.intro h21 h22))
  clear P2 C2 h21 h22 nk
  go_wp2_with fail
  have T0 : ObM x c1 c2 c3 base w w2 m' #[.int .i64 0, .int .i64 0, .int .i64 0, .bool false, .bool false] #[.int .i64 0, .int .i64 0, .int .i64 0, .bool false, .bool false] := ⟨H2.out.1, (ChS.of_below HB.out.1).trans H2.out.2.1, H2.out.2.2.1, H2.out.2.2.2⟩
  subst ean
  have T := (((((T0).s1 0 (.int .i64 0)).s1 1 (.int .i64 0)).s1 2 (.int .i64 0)).s1 3 (.bool false)).s1 4 (.bool false)
  refine bodyPost_ret (v := .agg #[.int .i64 0, .int .i64 0, .int .i64 0, .bool false, .bool false]) ?_ rfl ?_
  · exact results_cell_row (t := 41) rfl _ _ (w.heap.size + 1) _ (fr := (0, 0)) _ rfl (T.h1.trans rfl) Try.underlying41 rfl infoPObs
  · exact ⟨rfl, T.P, T.C⟩
set_option maxRecDepth 20000 in
set_option maxHeartbeats 4000000 in
theorem do_answ (x c1 c2 c3 base : Nat) (m : PX) (o : SPathOp) (dv : Value) (i : Nat) (w : World) (h : MRp w x c1 c2 c3 base m) (hI : PXI i m) (hi : i < 300) (hr : Row w .u8 dv o.f3) (hl : o.f3.length ≤ 1048576) (hbase : base ≤ w.heap.size) (hby : ∀ x ∈ o.f3, 0 ≤ x ∧ x < 256)
    (hc : ¬ (o.f2 < 0 ∨ 255 < o.f2 ∨ o.f1 < 0 ∨ 2000 < o.f1)) (hk : o.f0 = 4) (hs : o.f3.length = 8) :
    Calls Try.prog 15 #[.pointer (some ⟨x, 0, none⟩), .agg #[.int .i64 o.f0, .int .i64 o.f1, .int .i64 o.f2, dv]] w fun e w' => e = .returned (.agg #[.int .i64 (pstep m o).2.1, .int .i64 0, .int .i64 0, .bool false, .bool (pstep m o).2.2]) ∧ MDo x c1 c2 c3 base w w' (pstep m o).1 := by
  obtain ⟨k, n, a, D⟩ := o
  dsimp only at *
  obtain ⟨A, rfl⟩ : ∃ A : Nat, a = (A : Int) := ⟨a.toNat, by omega⟩
  have hA : A < 256 := by omega
  have hAI : (A : Int) < 256 := by omega
  have hn : 0 ≤ n ∧ n ≤ 2000 := by omega
  subst hk
  have es : pstep m ⟨4, n, (A : Int), D⟩ = (answM m D, 0, decide (wat m.ws D < m.ws.length)) := by
    unfold pstep
    dsimp only
    rw [if_neg hc, if_neg (by omega), if_neg (by omega), if_neg (by omega), if_pos rfl, if_neg (by omega)]
    unfold answM
    by_cases hf : wat m.ws D < m.ws.length
    · rw [if_pos hf, if_pos hf, decide_eq_true hf]
    · rw [if_neg hf, if_neg hf, decide_eq_false hf]
  rw [es]
  have h1 : ¬ (A : Int) < 0 := by omega
  have h2 : ¬ (255 : Int) < (A : Int) := by omega
  have h3 : ¬ n < 0 := by omega
  have h4 : ¬ 2000 < n := by omega
  have ha := hI.ad
  obtain ⟨wv, Z, hM⟩ := id h
  obtain ⟨d0, d1, d2, d3, d4, d5⟩ := hM.cells
  have hx := (Array.getElem?_eq_some_iff.1 hM.bk).1
  have l1 := hM.r1.lt
  have l2 := hM.r2.lt
  have l3 := hM.r3.lt
  obtain ⟨W0, eW0⟩ : ∃ W0, W0 = ((w.alloc (.cells #[.int .i64 4, .int .i64 n, .int .i64 (A : Int), dv] 43)).alloc (.cells #[.int .i64 0, .int .i64 0, .int .i64 0, .bool false, .bool false] 41)).alloc (.cells #[.int .i64 0, .int .i64 0, .int .i64 0, .bool false, .bool false] 41) := ⟨_, rfl⟩
  have bW0 : Below w.heap.size w W0 := by rw [eW0]; exact below3 w _ _ _
  obtain ⟨e0, e1, e2, e3, e4, e5⟩ := (hM.below bW0).cells
  have kW : W0.heap[w.heap.size]? = some (.cells #[.int .i64 4, .int .i64 n, .int .i64 (A : Int), dv] 43 (0, 0)) := by rw [eW0]; exact (bk_new3 w _ _ _).1
  have p1 : W0.cell? ⟨w.heap.size, 1, none⟩ = some (.int .i64 n) := (bk_cell kW 1).trans rfl
  have p2 : W0.cell? ⟨w.heap.size, 2, none⟩ = some (.int .i64 (A : Int)) := (bk_cell kW 2).trans rfl
  have p3 : W0.cell? ⟨w.heap.size, 3, none⟩ = some dv := (bk_cell kW 3).trans rfl
  have HB : Hid _ := And.intro bW0 (And.intro (hM.below bW0) kW)
  rw [eW0] at HB e0 e1 e2 e3 e4 p1 p2 p3
  clear bW0 kW e5 eW0
  have hd8 : ((D.length : Int) != 8) = false := by simp; omega
  have CL := answM1 x c1 c2 c3 base m dv D i _ ⟨wv, Z, HB.out.2.1⟩ hI (hr.below HB.out.1) hl (Nat.le_trans hbase HB.out.1.size) hby
  have HL : Hid _ := And.intro CL True.intro
  clear CL e0 e1 e2 e3 e4 d0 d1 d2 d3 d4 d5 p1 p2
  obtain ⟨m', em⟩ : ∃ m', m' = answM m D := ⟨_, rfl⟩
  obtain ⟨an, ean⟩ : ∃ an : Bool, an = decide (wat m.ws D < m.ws.length) := ⟨_, rfl⟩
  rw [← em, ← ean] at HL
  rw [← em, ← ean]
  obtain ⟨ao, cp, ev⟩ := hr.form
  generalize D.length = dn at *
  clear h hI hr es hby hl hM hc hs hn em ean
  subst ev
  go_enter Try.func15, Try.ntmps15
  go_wp2_with fail
  go_at_call 26
  refine HL.out.1.mono ?_
  rintro e w2 ⟨rfl, P2, C2⟩
  have nk : ∀ q, w.heap.size ≤ q → ¬ KS x c1 c2 c3 q := fun q hq e => by rcases e with e | e | e | e <;> omega
  have h21 := C2.bk (bk_new3' w _ _ _).1 (Or.inr ⟨nk _ (by omega), by decide⟩)
  have h22 := C2.bk (bk_new3' w _ _ _).2 (Or.inr ⟨nk _ (by omega), by decide⟩)
  have y0 : w2.cell? ⟨w.heap.size + 1, 0, none⟩ = some (.int .i64 0) := (bk_cell h21 0).trans rfl
  have f0 := bk_free h21 0
  have u0 : w2.cell? ⟨w.heap.size + 1 + 1, 0, none⟩ = some (.int .i64 0) := (bk_cell h22 0).trans rfl
  have v0 : w2.frozen? ⟨w.heap.size + 1 + 1, 0, none⟩ = false := bk_free h22 0
  have y1 : w2.cell? ⟨w.heap.size + 1, 1, none⟩ = some (.int .i64 0) := (bk_cell h21 1).trans rfl
  have f1 := bk_free h21 1
  have u1 : w2.cell? ⟨w.heap.size + 1 + 1, 1, none⟩ = some (.int .i64 0) := (bk_cell h22 1).trans rfl
  have v1 : w2.frozen? ⟨w.heap.size + 1 + 1, 1, none⟩ = false := bk_free h22 1
  have y2 : w2.cell? ⟨w.heap.size + 1, 2, none⟩ = some (.int .i64 0) := (bk_cell h21 2).trans rfl
  have f2 := bk_free h21 2
  have u2 : w2.cell? ⟨w.heap.size + 1 + 1, 2, none⟩ = some (.int .i64 0) := (bk_cell h22 2).trans rfl
  have v2 : w2.frozen? ⟨w.heap.size + 1 + 1, 2, none⟩ = false := bk_free h22 2
  have y3 : w2.cell? ⟨w.heap.size + 1, 3, none⟩ = some (.bool false) := (bk_cell h21 3).trans rfl
  have f3 := bk_free h21 3
  have u3 : w2.cell? ⟨w.heap.size + 1 + 1, 3, none⟩ = some (.bool false) := (bk_cell h22 3).trans rfl
  have v3 : w2.frozen? ⟨w.heap.size + 1 + 1, 3, none⟩ = false := bk_free h22 3
  have y4 : w2.cell? ⟨w.heap.size + 1, 4, none⟩ = some (.bool false) := (bk_cell h21 4).trans rfl
  have f4 := bk_free h21 4
  have u4 : w2.cell? ⟨w.heap.size + 1 + 1, 4, none⟩ = some (.bool false) := (bk_cell h22 4).trans rfl
  have v4 : w2.frozen? ⟨w.heap.size + 1 + 1, 4, none⟩ = false := bk_free h22 4
  have H2 : Hid _ := And.intro P2 (And.intro C2 (And.intro h21 h22))
  clear P2 C2 h21 h22 nk
  go_wp2_with fail
  have T0 : ObM x c1 c2 c3 base w w2 m' #[.int .i64 0, .int .i64 0, .int .i64 0, .bool false, .bool false] #[.int .i64 0, .int .i64 0, .int .i64 0, .bool false, .bool false] := ⟨H2.out.1, (ChS.of_below HB.out.1).trans H2.out.2.1, H2.out.2.2.1, H2.out.2.2.2⟩
  have T := ((((((T0).s2 4 (.bool an)).s1 0 (.int .i64 0)).s1 1 (.int .i64 0)).s1 2 (.int .i64 0)).s1 3 (.bool false)).s1 4 (.bool an)
  refine bodyPost_ret (v := .agg #[.int .i64 0, .int .i64 0, .int .i64 0, .bool false, .bool an]) ?_ rfl ?_
  · exact results_cell_row (t := 41) rfl _ _ (w.heap.size + 1) _ (fr := (0, 0)) _ rfl (T.h1.trans rfl) Try.underlying41 rfl infoPObs
  · exact ⟨rfl, T.P, T.C⟩
theorem doP (x c1 c2 c3 base : Nat) (m : PX) (o : SPathOp) (dv : Value) (i : Nat) (w : World) (h : MRp w x c1 c2 c3 base m) (hI : PXI i m) (hi : i < 300) (hr : Row w .u8 dv o.f3) (hl : o.f3.length ≤ 1048576) (hbase : base ≤ w.heap.size) (hby : ∀ x ∈ o.f3, 0 ≤ x ∧ x < 256) :
    Calls Try.prog 15 #[.pointer (some ⟨x, 0, none⟩), .agg #[.int .i64 o.f0, .int .i64 o.f1, .int .i64 o.f2, dv]] w fun e w' => e = .returned (.agg #[.int .i64 (pstep m o).2.1, .int .i64 0, .int .i64 0, .bool false, .bool (pstep m o).2.2]) ∧ MDo x c1 c2 c3 base w w' (pstep m o).1 := by
  by_cases hc : o.f2 < 0 ∨ 255 < o.f2 ∨ o.f1 < 0 ∨ 2000 < o.f1 ∨ o.f0 < 1 ∨ 4 < o.f0 ∨ (3 ≤ o.f0 ∧ o.f3.length ≠ 8)
  · exact do_bad x c1 c2 c3 base m o dv i w h hI hi hr hl hbase hby hc
  have hc' : ¬ (o.f2 < 0 ∨ 255 < o.f2 ∨ o.f1 < 0 ∨ 2000 < o.f1) := by omega
  by_cases k1 : o.f0 = 1
  · by_cases hs : m.srv = true
    · exact do_came1 x c1 c2 c3 base m o dv i w h hI hi hr hl hbase hby hc' k1 hs
    have hs' : m.srv = false := by simpa using hs
    by_cases ha : o.f2 = (m.ad : Int)
    · exact do_came2 x c1 c2 c3 base m o dv i w h hI hi hr hl hbase hby hc' k1 ⟨hs', ha⟩
    · exact do_came0 x c1 c2 c3 base m o dv i w h hI hi hr hl hbase hby hc' k1 ⟨hs', ha⟩
  by_cases k2 : o.f0 = 2
  · by_cases hs : m.may < o.f1
    · exact do_send0 x c1 c2 c3 base m o dv i w h hI hi hr hl hbase hby hc' k2 hs
    · exact do_send1 x c1 c2 c3 base m o dv i w h hI hi hr hl hbase hby hc' k2 hs
  by_cases k3 : o.f0 = 3
  · exact do_chal x c1 c2 c3 base m o dv i w h hI hi hr hl hbase hby hc' k3 (by omega)
  · exact do_answ x c1 c2 c3 base m o dv i w h hI hi hr hl hbase hby hc' (by omega) (by omega)
end Go.Proofs.Ytjikdecfampbiaa
