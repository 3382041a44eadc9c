import Derived.Test.YtgifbpongpbjaaaDoorRiA
import Derived.Laws.Rows
import Derived.BigRegion
namespace Go.Proofs.YtgifbpongpbjaaaDoor
open Go.RowKit
set_option linter.unusedVariables false

theorem Env.below {w w' : World} {g c win i : Nat} {m : MS} (h : Env w g c win i m) (hb : Below w.heap.size w w') : Env w' g c win i m :=
  ⟨h.tab.below hb h.t0, Nat.lt_of_lt_of_le h.t0 hb.size, h.hne, h.hgc, h.w1, h.w2, h.i4, h.inv⟩
theorem Rep.lt {w : World} {g c win : Nat} {m : MS} (h : Rep w g c win m) : g < w.heap.size ∧ c < w.heap.size := by
  obtain ⟨L, a, b, r⟩ := h
  exact ⟨(Array.getElem?_eq_some_iff.1 a).1, (Array.getElem?_eq_some_iff.1 b).1⟩
theorem Rep.c1 {w : World} {g c win : Nat} {m : MS} (h : Rep w g c win m) : w.cell? ⟨g, 1, none⟩ = some (.int .i64 (m.st : Int)) := by
  obtain ⟨L, a, b, r⟩ := h
  exact (bk_cell a 1).trans rfl
theorem Rep.c7 {w : World} {g c win : Nat} {m : MS} (h : Rep w g c win m) : w.cell? ⟨g, 7, none⟩ = some (.int .i64 m.told) := by
  obtain ⟨L, a, b, r⟩ := h
  exact (bk_cell a 7).trans rfl
/-- The three blocks of run: the operation, the answer's room, the observation. -/
structure RunAt (w wx : World) (ins obs : Array Value) : Prop where
  b0 : wx.heap[w.heap.size]? = some (.cells ins 28 (0, 0))
  b1 : wx.heap[w.heap.size + 1]? = some (.cells #[.int .i64 0, .int .i64 0, .int .i64 0, .slice none 0 0, .bool false] 33 (0, 0))
  b2 : wx.heap[w.heap.size + 2]? = some (.cells obs 33 (0, 0))
theorem RunAt.lt {w wx : World} {ins obs : Array Value} (h : RunAt w wx ins obs) : w.heap.size + 2 < wx.heap.size := (Array.getElem?_eq_some_iff.1 h.b2).1
theorem RunAt.chg {w wx w' : World} {ins obs : Array Value} {S : Nat → Prop} (h : RunAt w wx ins obs) (hc : Chg S wx w') (hs : ∀ k, w.heap.size ≤ k → ¬ S k) : RunAt w w' ins obs :=
  ⟨(hc.block _ (by have := h.lt; omega) (hs _ (by omega))).trans h.b0, (hc.block _ (by have := h.lt; omega) (hs _ (by omega))).trans h.b1, (hc.block _ h.lt (hs _ (by omega))).trans h.b2⟩
theorem RunAt.set {w wx : World} {ins obs : Array Value} (h : RunAt w wx ins obs) (i : Nat) (r : Value) : RunAt w (wx.setCell ⟨w.heap.size + 2, i, none⟩ r) ins (obs.setIfInBounds i r) :=
  ⟨(bk_other (by omega) i r).trans h.b0, (bk_other (by omega) i r).trans h.b1, bk_set h.b2 i r⟩
theorem run_new (w : World) (ins obs : Array Value) : RunAt w (((w.alloc (.cells ins 28)).alloc (.cells #[.int .i64 0, .int .i64 0, .int .i64 0, .slice none 0 0, .bool false] 33)).alloc (.cells obs 33)) ins obs := by
  obtain ⟨h0, h1, h2⟩ := bk_new3 w (.cells ins 28) (.cells #[.int .i64 0, .int .i64 0, .int .i64 0, .slice none 0 0, .bool false] 33) (.cells obs 33)
  exact ⟨h0, h1, h2⟩
theorem run_below (w : World) (o1 o2 o3 : Obj) : Below w.heap.size w (((w.alloc o1).alloc o2).alloc o3) := (((Below.refl _ _).alloc (Nat.le_refl _) _).alloc (by simp) _).alloc (by simp <;> omega) _
theorem Rep.setN {wx : World} {g c win : Nat} {m : MS} (h : Rep wx g c win m) (k i : Nat) (u : Value) (hk : k ≠ g ∧ k ≠ c) : Rep (wx.setCell ⟨k, i, none⟩ u) g c win m := by
  obtain ⟨L, a, b, r⟩ := h
  exact ⟨L, (bk_other (fun e => hk.1 e.symm) i u).trans a, (bk_other (fun e => hk.2 e.symm) i u).trans b, r⟩
theorem Rep.drewX {wx : World} {g c win : Nat} {m : MS} (h : Rep wx g c win m) : Rep wx.drew g c win m := h
theorem Chg.drewX {S : Nat → Prop} {w w' : World} (h : Chg S w w') : Chg S w w'.drew := ⟨h.os, h.tape, h.output, h.size, h.block⟩
theorem Chg.setN {S : Nat → Prop} {w w' : World} (h : Chg S w w') (k i : Nat) (u : Value) (hk : w.heap.size ≤ k) : Chg S w (w'.setCell ⟨k, i, none⟩ u) :=
  ⟨h.os, h.tape, h.output, by have := h.size; simpa [World.setCell] using this, fun j hj hs => (bk_other (k := j) (g := k) (by omega) i u).trans (h.block j hj hs)⟩
theorem heap_drewX {w : World} {k : Nat} {o : Option Obj} (h : w.heap[k]? = o) : w.drew.heap[k]? = o := h
theorem owns_drewX {w : World} {base e s n : Nat} {v : Value} {xs : List Value} (h : w.ownsRow base e s v n xs) : w.drew.ownsRow base e s v n xs := h
theorem infoRObs : (Tryd.prog.info? 33).map (·.size) = some 5 := by kernel_rfl
set_option maxRecDepth 20000 in
set_option maxHeartbeats 4000000 in
theorem run_reset (g c win i : Nat) (m : MS) (a b : Int) (u : Value) (fb : Bool) (w : World) (hE : Env w g c win i m) (hR : Rep w g c win m) :
    Calls Tryd.prog 10 #[.pointer (some ⟨g, 0, none⟩), .agg #[.int .i64 2, .int .i64 a, .int .i64 b, u, .bool fb]] w fun e w' => e = .returned (.agg #[.int .i64 (mreset m b).2, .int .i64 ((mreset m b).1.st : Int), .int .i64 (mreset m b).1.told, .slice none 0 0, .bool false]) ∧ Rep w' g c win (mreset m b).1 ∧ Chg (K2 g c) w w' := by
  have A0 := run_new w #[.int .i64 2, .int .i64 a, .int .i64 b, u, .bool fb] #[.int .i64 1, .int .i64 0, .int .i64 0, .slice none 0 0, .bool false]
  have B0 := run_below w (.cells #[.int .i64 2, .int .i64 a, .int .i64 b, u, .bool fb] 28) (.cells #[.int .i64 0, .int .i64 0, .int .i64 0, .slice none 0 0, .bool false] 33) (.cells #[.int .i64 1, .int .i64 0, .int .i64 0, .slice none 0 0, .bool false] 33)
  have C := resetR g c win i m b _ (hE.below B0) (hR.below B0)
  have hgl := hR.lt
  have hs : ∀ k, w.heap.size ≤ k → ¬ K2 g c k := fun k hk e => by rcases e with e | e <;> omega
  have H0 : Hid _ := And.intro A0 (And.intro B0 (And.intro C hs))
  clear A0 B0 C hE hR hs
  go_enter Tryd.func10, Tryd.ntmps10
  go_wp2_with fail
  go_at_call 12
  refine H0.out.2.2.1.mono ?_
  rintro e w1 ⟨rfl, r1, ch⟩
  have A1 := H0.out.1.chg ch H0.out.2.2.2
  have d1 := r1.c1
  have d7 := r1.c7
  have h1 : w.heap.size + 2 < w1.heap.size := A1.lt
  have z0 : w1.cell? ⟨w.heap.size + 2, 0, none⟩ = some (.int .i64 1) := by rw [bk_cell A1.b2]; rfl
  have f0 : w1.frozen? ⟨w.heap.size + 2, 0, none⟩ = false := bk_free A1.b2 0
  have y0 : w1.cell? ⟨w.heap.size + 1, 0, none⟩ = some (.int .i64 0) := by rw [bk_cell A1.b1]; rfl
  have g0 : w1.frozen? ⟨w.heap.size + 1, 0, none⟩ = false := bk_free A1.b1 0
  have z1 : w1.cell? ⟨w.heap.size + 2, 1, none⟩ = some (.int .i64 0) := by rw [bk_cell A1.b2]; rfl
  have f1 : w1.frozen? ⟨w.heap.size + 2, 1, none⟩ = false := bk_free A1.b2 1
  have y1 : w1.cell? ⟨w.heap.size + 1, 1, none⟩ = some (.int .i64 0) := by rw [bk_cell A1.b1]; rfl
  have g1 : w1.frozen? ⟨w.heap.size + 1, 1, none⟩ = false := bk_free A1.b1 1
  have z2 : w1.cell? ⟨w.heap.size + 2, 2, none⟩ = some (.int .i64 0) := by rw [bk_cell A1.b2]; rfl
  have f2 : w1.frozen? ⟨w.heap.size + 2, 2, none⟩ = false := bk_free A1.b2 2
  have y2 : w1.cell? ⟨w.heap.size + 1, 2, none⟩ = some (.int .i64 0) := by rw [bk_cell A1.b1]; rfl
  have g2 : w1.frozen? ⟨w.heap.size + 1, 2, none⟩ = false := bk_free A1.b1 2
  have z3 : w1.cell? ⟨w.heap.size + 2, 3, none⟩ = some (.slice none 0 0) := by rw [bk_cell A1.b2]; rfl
  have f3 : w1.frozen? ⟨w.heap.size + 2, 3, none⟩ = false := bk_free A1.b2 3
  have y3 : w1.cell? ⟨w.heap.size + 1, 3, none⟩ = some (.slice none 0 0) := by rw [bk_cell A1.b1]; rfl
  have g3 : w1.frozen? ⟨w.heap.size + 1, 3, none⟩ = false := bk_free A1.b1 3
  have z4 : w1.cell? ⟨w.heap.size + 2, 4, none⟩ = some (.bool false) := by rw [bk_cell A1.b2]; rfl
  have f4 : w1.frozen? ⟨w.heap.size + 2, 4, none⟩ = false := bk_free A1.b2 4
  have y4 : w1.cell? ⟨w.heap.size + 1, 4, none⟩ = some (.bool false) := by rw [bk_cell A1.b1]; rfl
  have g4 : w1.frozen? ⟨w.heap.size + 1, 4, none⟩ = false := bk_free A1.b1 4
  obtain ⟨cd, ecd⟩ : ∃ x : Int, x = (mreset m b).2 := ⟨_, rfl⟩
  obtain ⟨st, est⟩ : ∃ x : Int, x = ((mreset m b).1.st : Int) := ⟨_, rfl⟩
  obtain ⟨td, etd⟩ : ∃ x : Int, x = (mreset m b).1.told := ⟨_, rfl⟩
  rw [← est] at d1
  rw [← etd] at d7
  rw [← ecd]
  have H1 : Hid _ := And.intro A1 (And.intro r1 (And.intro ch (And.intro ecd (And.intro est etd))))
  clear A1 r1 ch ecd est etd
  have hg1 := hgl.1
  go_wp2_with fail
  go_region
  all_goals
    go_wp2_with fail
    refine bodyPost_ret (v := .agg #[.int .i64 cd, .int .i64 st, .int .i64 td, .slice none 0 0, .bool false]) ?_ rfl ?_
    · refine results_cell_row (t := 33) rfl _ _ (w.heap.size + 1) _ (fr := (0, 0)) _ rfl ?_ Tryd.underlying33 rfl infoRObs
      refine (heap_drewX (bk_set (bk_set (bk_set (bk_set (bk_set ((bk_other (by omega) 2 (.int .i64 td)).trans ((bk_other (by omega) 1 (.int .i64 st)).trans ((bk_other (by omega) 0 (.int .i64 cd)).trans (H1.out.1.b1)))) 0 (.int .i64 cd)) 1 (.int .i64 st)) 2 (.int .i64 td)) 3 (.slice none 0 0)) 4 (.bool false))).trans ?_
      rfl
    · refine ⟨by rw [← H1.out.2.2.2.1, ← H1.out.2.2.2.2.1, ← H1.out.2.2.2.2.2], (((((((((H1.out.2.1).setN (w.heap.size + 2) 0 (.int .i64 cd) (by omega)).setN (w.heap.size + 2) 1 (.int .i64 st) (by omega)).setN (w.heap.size + 2) 2 (.int .i64 td) (by omega)).setN (w.heap.size + 1) 0 (.int .i64 cd) (by omega)).setN (w.heap.size + 1) 1 (.int .i64 st) (by omega)).setN (w.heap.size + 1) 2 (.int .i64 td) (by omega)).setN (w.heap.size + 1) 3 (.slice none 0 0) (by omega)).setN (w.heap.size + 1) 4 (.bool false) (by omega)).drewX, ((((((((((Chg.of_below H0.out.2.1).trans H1.out.2.2.1).setN (w.heap.size + 2) 0 (.int .i64 cd) (by omega)).setN (w.heap.size + 2) 1 (.int .i64 st) (by omega)).setN (w.heap.size + 2) 2 (.int .i64 td) (by omega)).setN (w.heap.size + 1) 0 (.int .i64 cd) (by omega)).setN (w.heap.size + 1) 1 (.int .i64 st) (by omega)).setN (w.heap.size + 1) 2 (.int .i64 td) (by omega)).setN (w.heap.size + 1) 3 (.slice none 0 0) (by omega)).setN (w.heap.size + 1) 4 (.bool false) (by omega)).drewX⟩
set_option maxRecDepth 20000 in
set_option maxHeartbeats 4000000 in
theorem run_data (g c win i : Nat) (m : MS) (a b : Int) (u : Value) (fb : Bool) (w : World) (hE : Env w g c win i m) (hR : Rep w g c win m) (D : List Int) (hrow : Row w .u8 u D) (hl : D.length ≤ 140737488355328) (ho : a ≤ 9223372036854775807) (hap : 0 < D.length → ∀ b o l cp, u = .slice (some ⟨b, o, none⟩) l cp → b ≠ g ∧ b ≠ c) :
    Calls Tryd.prog 10 #[.pointer (some ⟨g, 0, none⟩), .agg #[.int .i64 1, .int .i64 a, .int .i64 b, u, .bool fb]] w fun e w' => e = .returned (.agg #[.int .i64 (mdata m a D fb).2, .int .i64 ((mdata m a D fb).1.st : Int), .int .i64 (mdata m a D fb).1.told, .slice none 0 0, .bool false]) ∧ Rep w' g c win (mdata m a D fb).1 ∧ Chg (K2 g c) w w' := by
  have A0 := run_new w #[.int .i64 1, .int .i64 a, .int .i64 b, u, .bool fb] #[.int .i64 1, .int .i64 0, .int .i64 0, .slice none 0 0, .bool false]
  have B0 := run_below w (.cells #[.int .i64 1, .int .i64 a, .int .i64 b, u, .bool fb] 28) (.cells #[.int .i64 0, .int .i64 0, .int .i64 0, .slice none 0 0, .bool false] 33) (.cells #[.int .i64 1, .int .i64 0, .int .i64 0, .slice none 0 0, .bool false] 33)
  have C := dataR g c win i m a u D fb _ (hE.below B0) (hR.below B0) (hrow.below B0) hl ho hap
  have hgl := hR.lt
  have hs : ∀ k, w.heap.size ≤ k → ¬ K2 g c k := fun k hk e => by rcases e with e | e <;> omega
  have H0 : Hid _ := And.intro A0 (And.intro B0 (And.intro C hs))
  clear A0 B0 C hE hR hs hrow hl ho hap
  go_enter Tryd.func10, Tryd.ntmps10
  go_wp2_with fail
  go_at_call 11
  refine H0.out.2.2.1.mono ?_
  rintro e w1 ⟨rfl, r1, ch⟩
  have A1 := H0.out.1.chg ch H0.out.2.2.2
  have d1 := r1.c1
  have d7 := r1.c7
  have h1 : w.heap.size + 2 < w1.heap.size := A1.lt
  have z0 : w1.cell? ⟨w.heap.size + 2, 0, none⟩ = some (.int .i64 1) := by rw [bk_cell A1.b2]; rfl
  have f0 : w1.frozen? ⟨w.heap.size + 2, 0, none⟩ = false := bk_free A1.b2 0
  have y0 : w1.cell? ⟨w.heap.size + 1, 0, none⟩ = some (.int .i64 0) := by rw [bk_cell A1.b1]; rfl
  have g0 : w1.frozen? ⟨w.heap.size + 1, 0, none⟩ = false := bk_free A1.b1 0
  have z1 : w1.cell? ⟨w.heap.size + 2, 1, none⟩ = some (.int .i64 0) := by rw [bk_cell A1.b2]; rfl
  have f1 : w1.frozen? ⟨w.heap.size + 2, 1, none⟩ = false := bk_free A1.b2 1
  have y1 : w1.cell? ⟨w.heap.size + 1, 1, none⟩ = some (.int .i64 0) := by rw [bk_cell A1.b1]; rfl
  have g1 : w1.frozen? ⟨w.heap.size + 1, 1, none⟩ = false := bk_free A1.b1 1
  have z2 : w1.cell? ⟨w.heap.size + 2, 2, none⟩ = some (.int .i64 0) := by rw [bk_cell A1.b2]; rfl
  have f2 : w1.frozen? ⟨w.heap.size + 2, 2, none⟩ = false := bk_free A1.b2 2
  have y2 : w1.cell? ⟨w.heap.size + 1, 2, none⟩ = some (.int .i64 0) := by rw [bk_cell A1.b1]; rfl
  have g2 : w1.frozen? ⟨w.heap.size + 1, 2, none⟩ = false := bk_free A1.b1 2
  have z3 : w1.cell? ⟨w.heap.size + 2, 3, none⟩ = some (.slice none 0 0) := by rw [bk_cell A1.b2]; rfl
  have f3 : w1.frozen? ⟨w.heap.size + 2, 3, none⟩ = false := bk_free A1.b2 3
  have y3 : w1.cell? ⟨w.heap.size + 1, 3, none⟩ = some (.slice none 0 0) := by rw [bk_cell A1.b1]; rfl
  have g3 : w1.frozen? ⟨w.heap.size + 1, 3, none⟩ = false := bk_free A1.b1 3
  have z4 : w1.cell? ⟨w.heap.size + 2, 4, none⟩ = some (.bool false) := by rw [bk_cell A1.b2]; rfl
  have f4 : w1.frozen? ⟨w.heap.size + 2, 4, none⟩ = false := bk_free A1.b2 4
  have y4 : w1.cell? ⟨w.heap.size + 1, 4, none⟩ = some (.bool false) := by rw [bk_cell A1.b1]; rfl
  have g4 : w1.frozen? ⟨w.heap.size + 1, 4, none⟩ = false := bk_free A1.b1 4
  obtain ⟨cd, ecd⟩ : ∃ x : Int, x = (mdata m a D fb).2 := ⟨_, rfl⟩
  obtain ⟨st, est⟩ : ∃ x : Int, x = ((mdata m a D fb).1.st : Int) := ⟨_, rfl⟩
  obtain ⟨td, etd⟩ : ∃ x : Int, x = (mdata m a D fb).1.told := ⟨_, rfl⟩
  rw [← est] at d1
  rw [← etd] at d7
  rw [← ecd]
  have H1 : Hid _ := And.intro A1 (And.intro r1 (And.intro ch (And.intro ecd (And.intro est etd))))
  clear A1 r1 ch ecd est etd
  have hg1 := hgl.1
  go_wp2_with fail
  go_region
  all_goals
    go_wp2_with fail
    refine bodyPost_ret (v := .agg #[.int .i64 cd, .int .i64 st, .int .i64 td, .slice none 0 0, .bool false]) ?_ rfl ?_
    · refine results_cell_row (t := 33) rfl _ _ (w.heap.size + 1) _ (fr := (0, 0)) _ rfl ?_ Tryd.underlying33 rfl infoRObs
      refine (heap_drewX (bk_set (bk_set (bk_set (bk_set (bk_set ((bk_other (by omega) 2 (.int .i64 td)).trans ((bk_other (by omega) 1 (.int .i64 st)).trans ((bk_other (by omega) 0 (.int .i64 cd)).trans (H1.out.1.b1)))) 0 (.int .i64 cd)) 1 (.int .i64 st)) 2 (.int .i64 td)) 3 (.slice none 0 0)) 4 (.bool false))).trans ?_
      rfl
    · refine ⟨by rw [← H1.out.2.2.2.1, ← H1.out.2.2.2.2.1, ← H1.out.2.2.2.2.2], (((((((((H1.out.2.1).setN (w.heap.size + 2) 0 (.int .i64 cd) (by omega)).setN (w.heap.size + 2) 1 (.int .i64 st) (by omega)).setN (w.heap.size + 2) 2 (.int .i64 td) (by omega)).setN (w.heap.size + 1) 0 (.int .i64 cd) (by omega)).setN (w.heap.size + 1) 1 (.int .i64 st) (by omega)).setN (w.heap.size + 1) 2 (.int .i64 td) (by omega)).setN (w.heap.size + 1) 3 (.slice none 0 0) (by omega)).setN (w.heap.size + 1) 4 (.bool false) (by omega)).drewX, ((((((((((Chg.of_below H0.out.2.1).trans H1.out.2.2.1).setN (w.heap.size + 2) 0 (.int .i64 cd) (by omega)).setN (w.heap.size + 2) 1 (.int .i64 st) (by omega)).setN (w.heap.size + 2) 2 (.int .i64 td) (by omega)).setN (w.heap.size + 1) 0 (.int .i64 cd) (by omega)).setN (w.heap.size + 1) 1 (.int .i64 st) (by omega)).setN (w.heap.size + 1) 2 (.int .i64 td) (by omega)).setN (w.heap.size + 1) 3 (.slice none 0 0) (by omega)).setN (w.heap.size + 1) 4 (.bool false) (by omega)).drewX⟩
set_option maxRecDepth 20000 in
set_option maxHeartbeats 4000000 in
theorem run_other (g c win i : Nat) (m : MS) (a b : Int) (u : Value) (fb : Bool) (w : World) (hE : Env w g c win i m) (hR : Rep w g c win m) (kd : Int) (n1 : (kd == 1) = false) (n2 : (kd == 2) = false) (n3 : (kd == 3) = false) :
    Calls Tryd.prog 10 #[.pointer (some ⟨g, 0, none⟩), .agg #[.int .i64 kd, .int .i64 a, .int .i64 b, u, .bool fb]] w fun e w' => e = .returned (.agg #[.int .i64 (m, (1 : Int)).2, .int .i64 ((m, (1 : Int)).1.st : Int), .int .i64 (m, (1 : Int)).1.told, .slice none 0 0, .bool false]) ∧ Rep w' g c win (m, (1 : Int)).1 ∧ Chg (K2 g c) w w' := by
  have A0 := run_new w #[.int .i64 kd, .int .i64 a, .int .i64 b, u, .bool fb] #[.int .i64 1, .int .i64 0, .int .i64 0, .slice none 0 0, .bool false]
  have B0 := run_below w (.cells #[.int .i64 kd, .int .i64 a, .int .i64 b, u, .bool fb] 28) (.cells #[.int .i64 0, .int .i64 0, .int .i64 0, .slice none 0 0, .bool false] 33) (.cells #[.int .i64 1, .int .i64 0, .int .i64 0, .slice none 0 0, .bool false] 33)
  have C := And.intro (hR.below B0) True.intro
  have hgl := hR.lt
  have hs : ∀ k, w.heap.size ≤ k → ¬ K2 g c k := fun k hk e => by rcases e with e | e <;> omega
  have H0 : Hid _ := And.intro A0 (And.intro B0 (And.intro C hs))
  clear A0 B0 C hE hR hs
  obtain ⟨w1, ew1⟩ : ∃ w1, w1 = (((w.alloc (.cells #[.int .i64 kd, .int .i64 a, .int .i64 b, u, .bool fb] 28)).alloc (.cells #[.int .i64 0, .int .i64 0, .int .i64 0, .slice none 0 0, .bool false] 33)).alloc (.cells #[.int .i64 1, .int .i64 0, .int .i64 0, .slice none 0 0, .bool false] 33)) := ⟨_, rfl⟩
  have A1 := H0.out.1
  have r1 := H0.out.2.2.1.1
  have ch : Chg (K2 g c) w1 w1 := chg_of_eq w1
  rw [← ew1] at A1 r1
  have d1 := r1.c1
  have d7 := r1.c7
  have h1 : w.heap.size + 2 < w1.heap.size := A1.lt
  have z0 : w1.cell? ⟨w.heap.size + 2, 0, none⟩ = some (.int .i64 1) := by rw [bk_cell A1.b2]; rfl
  have f0 : w1.frozen? ⟨w.heap.size + 2, 0, none⟩ = false := bk_free A1.b2 0
  have y0 : w1.cell? ⟨w.heap.size + 1, 0, none⟩ = some (.int .i64 0) := by rw [bk_cell A1.b1]; rfl
  have g0 : w1.frozen? ⟨w.heap.size + 1, 0, none⟩ = false := bk_free A1.b1 0
  have z1 : w1.cell? ⟨w.heap.size + 2, 1, none⟩ = some (.int .i64 0) := by rw [bk_cell A1.b2]; rfl
  have f1 : w1.frozen? ⟨w.heap.size + 2, 1, none⟩ = false := bk_free A1.b2 1
  have y1 : w1.cell? ⟨w.heap.size + 1, 1, none⟩ = some (.int .i64 0) := by rw [bk_cell A1.b1]; rfl
  have g1 : w1.frozen? ⟨w.heap.size + 1, 1, none⟩ = false := bk_free A1.b1 1
  have z2 : w1.cell? ⟨w.heap.size + 2, 2, none⟩ = some (.int .i64 0) := by rw [bk_cell A1.b2]; rfl
  have f2 : w1.frozen? ⟨w.heap.size + 2, 2, none⟩ = false := bk_free A1.b2 2
  have y2 : w1.cell? ⟨w.heap.size + 1, 2, none⟩ = some (.int .i64 0) := by rw [bk_cell A1.b1]; rfl
  have g2 : w1.frozen? ⟨w.heap.size + 1, 2, none⟩ = false := bk_free A1.b1 2
  have z3 : w1.cell? ⟨w.heap.size + 2, 3, none⟩ = some (.slice none 0 0) := by rw [bk_cell A1.b2]; rfl
  have f3 : w1.frozen? ⟨w.heap.size + 2, 3, none⟩ = false := bk_free A1.b2 3
  have y3 : w1.cell? ⟨w.heap.size + 1, 3, none⟩ = some (.slice none 0 0) := by rw [bk_cell A1.b1]; rfl
  have g3 : w1.frozen? ⟨w.heap.size + 1, 3, none⟩ = false := bk_free A1.b1 3
  have z4 : w1.cell? ⟨w.heap.size + 2, 4, none⟩ = some (.bool false) := by rw [bk_cell A1.b2]; rfl
  have f4 : w1.frozen? ⟨w.heap.size + 2, 4, none⟩ = false := bk_free A1.b2 4
  have y4 : w1.cell? ⟨w.heap.size + 1, 4, none⟩ = some (.bool false) := by rw [bk_cell A1.b1]; rfl
  have g4 : w1.frozen? ⟨w.heap.size + 1, 4, none⟩ = false := bk_free A1.b1 4
  obtain ⟨cd, ecd⟩ : ∃ x : Int, x = (m, (1 : Int)).2 := ⟨_, rfl⟩
  obtain ⟨st, est⟩ : ∃ x : Int, x = ((m, (1 : Int)).1.st : Int) := ⟨_, rfl⟩
  obtain ⟨td, etd⟩ : ∃ x : Int, x = (m, (1 : Int)).1.told := ⟨_, rfl⟩
  rw [← est] at d1
  rw [← etd] at d7
  have H1 : Hid _ := And.intro A1 (And.intro r1 (And.intro ch (And.intro ecd (And.intro est etd))))
  clear A1 r1 ch ecd est etd
  have hg1 := hgl.1
  go_enter Tryd.func10, Tryd.ntmps10
  go_upto_region 10 with fail
  have HB : Below w.heap.size w w1 := by rw [ew1]; exact H0.out.2.1
  rw [← ew1]
  clear ew1
  go_region
  all_goals
    go_wp2_with fail
    refine bodyPost_ret (v := .agg #[.int .i64 1, .int .i64 st, .int .i64 td, .slice none 0 0, .bool false]) ?_ rfl ?_
    · refine results_cell_row (t := 33) rfl _ _ (w.heap.size + 1) _ (fr := (0, 0)) _ rfl ?_ Tryd.underlying33 rfl infoRObs
      refine (heap_drewX (bk_set (bk_set (bk_set (bk_set (bk_set ((bk_other (by omega) 2 (.int .i64 td)).trans ((bk_other (by omega) 1 (.int .i64 st)).trans (H1.out.1.b1))) 0 (.int .i64 1)) 1 (.int .i64 st)) 2 (.int .i64 td)) 3 (.slice none 0 0)) 4 (.bool false))).trans ?_
      rfl
    · refine ⟨by rw [← H1.out.2.2.2.2.1, ← H1.out.2.2.2.2.2], ((((((((H1.out.2.1).setN (w.heap.size + 2) 1 (.int .i64 st) (by omega)).setN (w.heap.size + 2) 2 (.int .i64 td) (by omega)).setN (w.heap.size + 1) 0 (.int .i64 1) (by omega)).setN (w.heap.size + 1) 1 (.int .i64 st) (by omega)).setN (w.heap.size + 1) 2 (.int .i64 td) (by omega)).setN (w.heap.size + 1) 3 (.slice none 0 0) (by omega)).setN (w.heap.size + 1) 4 (.bool false) (by omega)).drewX, ((((((((Chg.of_below (HB)).setN (w.heap.size + 2) 1 (.int .i64 st) (by omega)).setN (w.heap.size + 2) 2 (.int .i64 td) (by omega)).setN (w.heap.size + 1) 0 (.int .i64 1) (by omega)).setN (w.heap.size + 1) 1 (.int .i64 st) (by omega)).setN (w.heap.size + 1) 2 (.int .i64 td) (by omega)).setN (w.heap.size + 1) 3 (.slice none 0 0) (by omega)).setN (w.heap.size + 1) 4 (.bool false) (by omega)).drewX⟩
end Go.Proofs.YtgifbpongpbjaaaDoor
