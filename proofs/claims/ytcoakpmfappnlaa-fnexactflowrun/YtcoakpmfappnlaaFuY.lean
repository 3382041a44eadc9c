import Derived.Test.YtcoakpmfappnlaaFuX
namespace Go.Proofs.Ytcoakpmfappnlaa
open Go.RowKit
set_option linter.unusedVariables false
set_option linter.unusedSimpArgs false

theorem FR.setO {w : World} {g base : Nat} {F : FS} {m : FX} {ss sc : Int} {wb ms ml : Nat} {pb : Nat → Nat} (h : FR w g base F m ss sc wb ms ml pb) {k : Nat} {c : Array Value} {fr : Nat × Nat} (hk : w.heap[k]? = some (.cells c 43 fr)) (i : Nat) (v : Value) : FR (w.setCell ⟨k, i, none⟩ v) g base F m ss sc wb ms ml pb := by
  obtain ⟨e1, c1, b1⟩ := h.sm.isMap
  obtain ⟨e2, c2, b2⟩ := h.lm.isMap
  have z : ∀ {q : Nat} {c' : Array Value} {T : TypeId} {f : Nat × Nat}, w.heap[q]? = some (.cells c' T f) → T ≠ 43 → (w.setCell ⟨k, i, none⟩ v).heap[q]? = some (.cells c' T f) := fun {q c' T f} hq hT => (bk_other (bk_apart hq hk hT) i v).trans hq
  exact ⟨z h.bk (by decide), z h.wk (by decide), fun j hj => z (h.ak j hj) (by decide), h.inj, h.nw, h.lo, h.lp, h.sm.setCell (map_apart hk b1).symm v, h.lm.setCell (map_apart hk b2).symm v, h.ne⟩
theorem own_set_type {T T' : TypeId} {K : Nat} {w : World} {base k i : Nat} {c : Array Value} {fr : Nat × Nat} {u v : Value} {L : List (List Value)} (h : GOwns T K w base v L) (hk : w.heap[k]? = some (.cells c T' fr)) (hT : T ≠ T') : GOwns T K (w.setCell ⟨k, i, none⟩ u) base v L := by
  obtain ⟨zs, ⟨hl, h2⟩, hz⟩ := h
  refine ⟨zs, ⟨hl, ?_⟩, hz⟩
  rcases h2 with h2 | ⟨g', cap, cur, rfl, hg, hh, r⟩
  · exact Or.inl h2
  · exact Or.inr ⟨g', cap, cur, rfl, hg, (bk_other (bk_apart hh hk hT) i u).trans hh, r⟩
/-- Amid an operation: the credit, the two observations, the frames. -/
structure ObX (g base : Nat) (w W : World) (F : FS) (m' : FX) (fv : Value) (fr : List (Int × Int × Int)) (r1 r2 : Array Value) : Prop where
  P : FRep W g base F m'
  C : FCh base w W
  h1 : W.heap[w.heap.size + 1]? = some (.cells r1 43 (0, 0))
  h2 : W.heap[w.heap.size + 2]? = some (.cells r2 43 (0, 0))
  f : GOwns 87 8 W w.heap.size fv (fr.map frC)
theorem ObX.s1 {g base : Nat} {w W : World} {F : FS} {m' : FX} {fv : Value} {fr : List (Int × Int × Int)} {r1 r2 : Array Value} (h : ObX g base w W F m' fv fr r1 r2) (o : Nat) (v : Value) : ObX g base w (W.setCell ⟨w.heap.size + 1, o, none⟩ v) F m' fv fr (r1.setIfInBounds o v) r2 := by
  obtain ⟨wb, ms, ml, pb, P⟩ := h.P
  exact ⟨⟨wb, ms, ml, pb, P.setO h.h1 o v⟩, h.C.setN (by omega) o v, bk_set h.h1 o v, (bk_other (by omega) o v).trans h.h2, own_set_type h.f h.h1 (by decide)⟩
theorem ObX.s2 {g base : Nat} {w W : World} {F : FS} {m' : FX} {fv : Value} {fr : List (Int × Int × Int)} {r1 r2 : Array Value} (h : ObX g base w W F m' fv fr r1 r2) (o : Nat) (v : Value) : ObX g base w (W.setCell ⟨w.heap.size + 2, o, none⟩ v) F m' fv fr r1 (r2.setIfInBounds o v) := by
  obtain ⟨wb, ms, ml, pb, P⟩ := h.P
  exact ⟨⟨wb, ms, ml, pb, P.setO h.h2 o v⟩, h.C.setN (by omega) o v, (bk_other (by omega) o v).trans h.h1, bk_set h.h2 o v, own_set_type h.f h.h2 (by decide)⟩
theorem infoFObs : (Try.prog.info? 43).map (·.size) = some 4 := by kernel_rfl
def runW (w : World) (k id n : Int) (o : Bool) : World := ((w.alloc (.cells #[.int .i64 k, .int .i64 id, .int .i64 n, .bool o] 46)).alloc (.cells #[.int .i64 0, .int .i64 0, .int .i64 0, .slice none 0 0] 43)).alloc (.cells #[.int .i64 1, .int .i64 0, .int .i64 0, .slice none 0 0] 43)
theorem runW_below (w : World) (k id n : Int) (o : Bool) : Below w.heap.size w (runW w k id n o) := (((Below.refl _ _).alloc (Nat.le_refl _) _).alloc (by simp) _).alloc (by simp; omega) _
theorem runW_size (w : World) (k id n : Int) (o : Bool) : (runW w k id n o).heap.size = w.heap.size + 3 := by simp [runW]
theorem runW_bk (w : World) (k id n : Int) (o : Bool) : (runW w k id n o).heap[w.heap.size + 1]? = some (.cells #[.int .i64 0, .int .i64 0, .int .i64 0, .slice none 0 0] 43 (0, 0)) ∧ (runW w k id n o).heap[w.heap.size + 2]? = some (.cells #[.int .i64 1, .int .i64 0, .int .i64 0, .slice none 0 0] 43 (0, 0)) := ⟨(bk_new3 w _ _ _).2.1, (bk_new3 w _ _ _).2.2⟩

set_option maxRecDepth 20000 in
set_option maxHeartbeats 4000000 in
theorem run_1 (g base : Nat) (F : FS) (hF : fsOK F = true) (m : FX) (i : Nat) (k id n : Int) (o : Bool) (w : World) (h : FRep w g base F m) (hI : FXI F i m) (hi : i ≤ 400) (hbase : base ≤ w.heap.size) (hw : (Lit.int .i64 id).wf = true) (hk : k = 1) :
    Calls Try.prog 21 #[.pointer (some ⟨g, 0, none⟩), .agg #[.int .i64 k, .int .i64 id, .int .i64 n, .bool o]] w fun e w' => ∃ fv, e = .returned (.agg #[.int .i64 (fstep F m k id n o).2.code, .int .i64 (fstep F m k id n o).2.id, .int .i64 (fstep F m k id n o).2.cnt, fv]) ∧ GOwns 87 8 w' w.heap.size fv ((fstep F m k id n o).2.fr.map frC) ∧ FDo w w' g base F (fstep F m k id n o).1 := by
  subst hk
  have es : fstep F m 1 id n o = fopen F m o := if_pos rfl
  rw [es]
  have hW := h.below (runW_below w 1 id n o)
  have hb0 : base ≤ (runW w 1 id n o).heap.size := Nat.le_trans hbase (runW_below w 1 id n o).size
  have C0 := openI g base F m i o _ hW hI hi hb0
  obtain ⟨X, eX⟩ : ∃ X, X = fopen F m o := ⟨_, rfl⟩
  have eZ : X.2.cnt = 0 ∧ X.2.fr = [] := by rw [eX]; unfold fopen; split <;> exact ⟨rfl, rfl⟩
  rw [← eX] at C0 ⊢
  have hB := runW_below w 1 id n o
  have hZ := runW_size w 1 id n o
  have hK := runW_bk w 1 id n o
  have HH : Hid _ := And.intro C0 (And.intro hB (And.intro hZ hK))
  unfold runW at HH
  clear h hI hW hb0 C0 hB hZ hK es eX hF hi hbase hw
  obtain ⟨M', O'⟩ := X
  dsimp only at HH ⊢
  obtain ⟨oc, oi, on, ofr⟩ := O'
  dsimp only at HH eZ ⊢
  obtain ⟨rfl, rfl⟩ := eZ
  go_enter Try.func21, Try.ntmps21
  go_wp2_with fail
  go_at_call 35
  refine HH.out.1.mono ?_
  rintro e w2 ⟨rfl, P2, C2⟩
  have G2 : GOwns 87 8 w2 w.heap.size (.slice none 0 0) (([] : List (Int × Int × Int)).map frC) := frames_nil _ _
  have hq1 := C2.bk HH.out.2.2.2.1 (by decide)
  have hq2 := C2.bk HH.out.2.2.2.2 (by decide)
  have a0 : w2.cell? ⟨w.heap.size + 1, 0, none⟩ = some (.int .i64 0) := (bk_cell hq1 0).trans rfl
  have ga0 := bk_free hq1 0
  have a1 : w2.cell? ⟨w.heap.size + 1, 1, none⟩ = some (.int .i64 0) := (bk_cell hq1 1).trans rfl
  have ga1 := bk_free hq1 1
  have a2 : w2.cell? ⟨w.heap.size + 1, 2, none⟩ = some (.int .i64 0) := (bk_cell hq1 2).trans rfl
  have ga2 := bk_free hq1 2
  have a3 : w2.cell? ⟨w.heap.size + 1, 3, none⟩ = some (.slice none 0 0) := (bk_cell hq1 3).trans rfl
  have ga3 := bk_free hq1 3
  have b0 : w2.cell? ⟨w.heap.size + 2, 0, none⟩ = some (.int .i64 1) := (bk_cell hq2 0).trans rfl
  have gb0 := bk_free hq2 0
  have b1 : w2.cell? ⟨w.heap.size + 2, 1, none⟩ = some (.int .i64 0) := (bk_cell hq2 1).trans rfl
  have gb1 := bk_free hq2 1
  have b2 : w2.cell? ⟨w.heap.size + 2, 2, none⟩ = some (.int .i64 0) := (bk_cell hq2 2).trans rfl
  have gb2 := bk_free hq2 2
  have b3 : w2.cell? ⟨w.heap.size + 2, 3, none⟩ = some (.slice none 0 0) := (bk_cell hq2 3).trans rfl
  have gb3 := bk_free hq2 3
  have T0 : ObX g base w w2 F M' (.slice none 0 0) [] _ _ := ⟨P2, (ChT.of_below HH.out.2.1).trans C2, hq1, hq2, G2⟩
  have H2 : Hid _ := And.intro T0 True.intro
  clear P2 C2 hq1 hq2 G2 T0
  go_wp2
  have T := ((((((H2.out.1.s2 1 (.int .i64 oi)).s2 0 (.int .i64 oc)).s1 0 ((.int .i64 oc))).s1 1 ((.int .i64 oi))).s1 2 (.int .i64 0)).s1 3 (.slice none 0 0))
  try simp only [Exit.inBlock, Exit.then]
  refine bodyPost_ret (v := .agg #[(.int .i64 oc), (.int .i64 oi), .int .i64 0, .slice none 0 0]) ?_ rfl ?_
  · exact results_cell_row (t := 43) rfl _ _ (w.heap.size + 1) _ (fr := (0, 0)) _ rfl T.h1 Try.underlying43 rfl infoFObs
  · exact ⟨_, rfl, T.f, T.P, T.C⟩
set_option maxRecDepth 20000 in
set_option maxHeartbeats 4000000 in
theorem run_2 (g base : Nat) (F : FS) (hF : fsOK F = true) (m : FX) (i : Nat) (k id n : Int) (o : Bool) (w : World) (h : FRep w g base F m) (hI : FXI F i m) (hi : i ≤ 400) (hbase : base ≤ w.heap.size) (hw : (Lit.int .i64 id).wf = true) (hk : k = 2) :
    Calls Try.prog 21 #[.pointer (some ⟨g, 0, none⟩), .agg #[.int .i64 k, .int .i64 id, .int .i64 n, .bool o]] w fun e w' => ∃ fv, e = .returned (.agg #[.int .i64 (fstep F m k id n o).2.code, .int .i64 (fstep F m k id n o).2.id, .int .i64 (fstep F m k id n o).2.cnt, fv]) ∧ GOwns 87 8 w' w.heap.size fv ((fstep F m k id n o).2.fr.map frC) ∧ FDo w w' g base F (fstep F m k id n o).1 := by
  subst hk
  have es : fstep F m 2 id n o = fsend F m id n := (if_neg (by decide)).trans (if_pos rfl)
  rw [es]
  have hW := h.below (runW_below w 2 id n o)
  have hb0 : base ≤ (runW w 2 id n o).heap.size := Nat.le_trans hbase (runW_below w 2 id n o).size
  have C0 := sendI g base F m i id n _ hW hI hi hw
  obtain ⟨X, eX⟩ : ∃ X, X = fsend F m id n := ⟨_, rfl⟩
  have eZ : X.2.id = 0 ∧ X.2.fr = [] := by rw [eX]; unfold fsend; split; exact ⟨rfl, rfl⟩; split <;> exact ⟨rfl, rfl⟩
  rw [← eX] at C0 ⊢
  have hB := runW_below w 2 id n o
  have hZ := runW_size w 2 id n o
  have hK := runW_bk w 2 id n o
  have HH : Hid _ := And.intro C0 (And.intro hB (And.intro hZ hK))
  unfold runW at HH
  clear h hI hW hb0 C0 hB hZ hK es eX hF hi hbase hw
  obtain ⟨M', O'⟩ := X
  dsimp only at HH ⊢
  obtain ⟨oc, oi, on, ofr⟩ := O'
  dsimp only at HH eZ ⊢
  obtain ⟨rfl, rfl⟩ := eZ
  go_enter Try.func21, Try.ntmps21
  go_wp2_with fail
  go_at_call 36
  refine HH.out.1.mono ?_
  rintro e w2 ⟨rfl, P2, C2⟩
  have G2 : GOwns 87 8 w2 w.heap.size (.slice none 0 0) (([] : List (Int × Int × Int)).map frC) := frames_nil _ _
  have hq1 := C2.bk HH.out.2.2.2.1 (by decide)
  have hq2 := C2.bk HH.out.2.2.2.2 (by decide)
  have a0 : w2.cell? ⟨w.heap.size + 1, 0, none⟩ = some (.int .i64 0) := (bk_cell hq1 0).trans rfl
  have ga0 := bk_free hq1 0
  have a1 : w2.cell? ⟨w.heap.size + 1, 1, none⟩ = some (.int .i64 0) := (bk_cell hq1 1).trans rfl
  have ga1 := bk_free hq1 1
  have a2 : w2.cell? ⟨w.heap.size + 1, 2, none⟩ = some (.int .i64 0) := (bk_cell hq1 2).trans rfl
  have ga2 := bk_free hq1 2
  have a3 : w2.cell? ⟨w.heap.size + 1, 3, none⟩ = some (.slice none 0 0) := (bk_cell hq1 3).trans rfl
  have ga3 := bk_free hq1 3
  have b0 : w2.cell? ⟨w.heap.size + 2, 0, none⟩ = some (.int .i64 1) := (bk_cell hq2 0).trans rfl
  have gb0 := bk_free hq2 0
  have b1 : w2.cell? ⟨w.heap.size + 2, 1, none⟩ = some (.int .i64 0) := (bk_cell hq2 1).trans rfl
  have gb1 := bk_free hq2 1
  have b2 : w2.cell? ⟨w.heap.size + 2, 2, none⟩ = some (.int .i64 0) := (bk_cell hq2 2).trans rfl
  have gb2 := bk_free hq2 2
  have b3 : w2.cell? ⟨w.heap.size + 2, 3, none⟩ = some (.slice none 0 0) := (bk_cell hq2 3).trans rfl
  have gb3 := bk_free hq2 3
  have T0 : ObX g base w w2 F M' (.slice none 0 0) [] _ _ := ⟨P2, (ChT.of_below HH.out.2.1).trans C2, hq1, hq2, G2⟩
  have H2 : Hid _ := And.intro T0 True.intro
  clear P2 C2 hq1 hq2 G2 T0
  go_wp2
  have T := ((((((H2.out.1.s2 2 (.int .i64 on)).s2 0 (.int .i64 oc)).s1 0 ((.int .i64 oc))).s1 1 (.int .i64 0)).s1 2 ((.int .i64 on))).s1 3 (.slice none 0 0))
  try simp only [Exit.inBlock, Exit.then]
  refine bodyPost_ret (v := .agg #[(.int .i64 oc), .int .i64 0, (.int .i64 on), .slice none 0 0]) ?_ rfl ?_
  · exact results_cell_row (t := 43) rfl _ _ (w.heap.size + 1) _ (fr := (0, 0)) _ rfl T.h1 Try.underlying43 rfl infoFObs
  · exact ⟨_, rfl, T.f, T.P, T.C⟩
set_option maxRecDepth 20000 in
set_option maxHeartbeats 4000000 in
theorem run_3 (g base : Nat) (F : FS) (hF : fsOK F = true) (m : FX) (i : Nat) (k id n : Int) (o : Bool) (w : World) (h : FRep w g base F m) (hI : FXI F i m) (hi : i ≤ 400) (hbase : base ≤ w.heap.size) (hw : (Lit.int .i64 id).wf = true) (hk : k = 3) :
    Calls Try.prog 21 #[.pointer (some ⟨g, 0, none⟩), .agg #[.int .i64 k, .int .i64 id, .int .i64 n, .bool o]] w fun e w' => ∃ fv, e = .returned (.agg #[.int .i64 (fstep F m k id n o).2.code, .int .i64 (fstep F m k id n o).2.id, .int .i64 (fstep F m k id n o).2.cnt, fv]) ∧ GOwns 87 8 w' w.heap.size fv ((fstep F m k id n o).2.fr.map frC) ∧ FDo w w' g base F (fstep F m k id n o).1 := by
  subst hk
  have es : fstep F m 3 id n o = cO (farrive F m id n) := (if_neg (by decide)).trans ((if_neg (by decide)).trans (if_pos rfl))
  rw [es]
  have hW := h.below (runW_below w 3 id n o)
  have hb0 : base ≤ (runW w 3 id n o).heap.size := Nat.le_trans hbase (runW_below w 3 id n o).size
  have C0 := arriveI g base F hF m i id n _ hW hI hi hb0 hw
  obtain ⟨X, eX⟩ : ∃ X, X = farrive F m id n := ⟨_, rfl⟩
  rw [← eX] at C0 ⊢
  have hB := runW_below w 3 id n o
  have hZ := runW_size w 3 id n o
  have hK := runW_bk w 3 id n o
  have HH : Hid _ := And.intro C0 (And.intro hB (And.intro hZ hK))
  unfold runW at HH
  clear h hI hW hb0 C0 hB hZ hK es eX hF hi hbase hw
  obtain ⟨M', c'⟩ := X
  unfold cO
  dsimp only at HH ⊢
  go_enter Try.func21, Try.ntmps21
  go_wp2_with fail
  go_at_call 37
  refine HH.out.1.mono ?_
  rintro e w2 ⟨rfl, P2, C2⟩
  have G2 : GOwns 87 8 w2 w.heap.size (.slice none 0 0) (([] : List (Int × Int × Int)).map frC) := frames_nil _ _
  have hq1 := C2.bk HH.out.2.2.2.1 (by decide)
  have hq2 := C2.bk HH.out.2.2.2.2 (by decide)
  have a0 : w2.cell? ⟨w.heap.size + 1, 0, none⟩ = some (.int .i64 0) := (bk_cell hq1 0).trans rfl
  have ga0 := bk_free hq1 0
  have a1 : w2.cell? ⟨w.heap.size + 1, 1, none⟩ = some (.int .i64 0) := (bk_cell hq1 1).trans rfl
  have ga1 := bk_free hq1 1
  have a2 : w2.cell? ⟨w.heap.size + 1, 2, none⟩ = some (.int .i64 0) := (bk_cell hq1 2).trans rfl
  have ga2 := bk_free hq1 2
  have a3 : w2.cell? ⟨w.heap.size + 1, 3, none⟩ = some (.slice none 0 0) := (bk_cell hq1 3).trans rfl
  have ga3 := bk_free hq1 3
  have b0 : w2.cell? ⟨w.heap.size + 2, 0, none⟩ = some (.int .i64 1) := (bk_cell hq2 0).trans rfl
  have gb0 := bk_free hq2 0
  have b1 : w2.cell? ⟨w.heap.size + 2, 1, none⟩ = some (.int .i64 0) := (bk_cell hq2 1).trans rfl
  have gb1 := bk_free hq2 1
  have b2 : w2.cell? ⟨w.heap.size + 2, 2, none⟩ = some (.int .i64 0) := (bk_cell hq2 2).trans rfl
  have gb2 := bk_free hq2 2
  have b3 : w2.cell? ⟨w.heap.size + 2, 3, none⟩ = some (.slice none 0 0) := (bk_cell hq2 3).trans rfl
  have gb3 := bk_free hq2 3
  have T0 : ObX g base w w2 F M' (.slice none 0 0) [] _ _ := ⟨P2, (ChT.of_below HH.out.2.1).trans C2, hq1, hq2, G2⟩
  have H2 : Hid _ := And.intro T0 True.intro
  clear P2 C2 hq1 hq2 G2 T0
  go_wp2
  have T := (((((H2.out.1.s2 0 (.int .i64 c')).s1 0 ((.int .i64 c'))).s1 1 (.int .i64 0)).s1 2 (.int .i64 0)).s1 3 (.slice none 0 0))
  try simp only [Exit.inBlock, Exit.then]
  refine bodyPost_ret (v := .agg #[(.int .i64 c'), .int .i64 0, .int .i64 0, .slice none 0 0]) ?_ rfl ?_
  · exact results_cell_row (t := 43) rfl _ _ (w.heap.size + 1) _ (fr := (0, 0)) _ rfl T.h1 Try.underlying43 rfl infoFObs
  · exact ⟨_, rfl, T.f, T.P, T.C⟩
set_option maxRecDepth 20000 in
set_option maxHeartbeats 4000000 in
theorem run_4 (g base : Nat) (F : FS) (hF : fsOK F = true) (m : FX) (i : Nat) (k id n : Int) (o : Bool) (w : World) (h : FRep w g base F m) (hI : FXI F i m) (hi : i ≤ 400) (hbase : base ≤ w.heap.size) (hw : (Lit.int .i64 id).wf = true) (hk : k = 4) :
    Calls Try.prog 21 #[.pointer (some ⟨g, 0, none⟩), .agg #[.int .i64 k, .int .i64 id, .int .i64 n, .bool o]] w fun e w' => ∃ fv, e = .returned (.agg #[.int .i64 (fstep F m k id n o).2.code, .int .i64 (fstep F m k id n o).2.id, .int .i64 (fstep F m k id n o).2.cnt, fv]) ∧ GOwns 87 8 w' w.heap.size fv ((fstep F m k id n o).2.fr.map frC) ∧ FDo w w' g base F (fstep F m k id n o).1 := by
  subst hk
  have es : fstep F m 4 id n o = fread F m id n := (if_neg (by decide)).trans ((if_neg (by decide)).trans ((if_neg (by decide)).trans (if_pos rfl)))
  rw [es]
  have hW := h.below (runW_below w 4 id n o)
  have hb0 : base ≤ (runW w 4 id n o).heap.size := Nat.le_trans hbase (runW_below w 4 id n o).size
  have C0 := readI g base F hF m i id n _ hW hI hi hb0 hw
  obtain ⟨X, eX⟩ : ∃ X, X = fread F m id n := ⟨_, rfl⟩
  have eZ : X.2.id = 0 ∧ X.2.cnt = 0 := by rw [eX]; unfold fread; split; split <;> exact ⟨rfl, rfl⟩; exact ⟨rfl, rfl⟩
  rw [← eX] at C0 ⊢
  have hB := runW_below w 4 id n o
  have hZ := runW_size w 4 id n o
  have hK := runW_bk w 4 id n o
  have HH : Hid _ := And.intro C0 (And.intro hB (And.intro hZ hK))
  unfold runW at HH
  clear h hI hW hb0 C0 hB hZ hK es eX hF hi hbase hw
  obtain ⟨M', O'⟩ := X
  dsimp only at HH ⊢
  obtain ⟨oc, oi, on, ofr⟩ := O'
  dsimp only at HH eZ ⊢
  obtain ⟨rfl, rfl⟩ := eZ
  go_enter Try.func21, Try.ntmps21
  go_wp2_with fail
  go_at_call 38
  refine HH.out.1.mono ?_
  rintro e w2 ⟨fv, rfl, G2, P2, C2⟩
  obtain ⟨fa, fn, fc, ef, efn⟩ := slice_form G2
  clear efn
  subst ef
  have G2 := G2.mono (base' := w.heap.size) (by rw [HH.out.2.2.1]; omega)
  have hq1 := C2.bk HH.out.2.2.2.1 (by decide)
  have hq2 := C2.bk HH.out.2.2.2.2 (by decide)
  have a0 : w2.cell? ⟨w.heap.size + 1, 0, none⟩ = some (.int .i64 0) := (bk_cell hq1 0).trans rfl
  have ga0 := bk_free hq1 0
  have a1 : w2.cell? ⟨w.heap.size + 1, 1, none⟩ = some (.int .i64 0) := (bk_cell hq1 1).trans rfl
  have ga1 := bk_free hq1 1
  have a2 : w2.cell? ⟨w.heap.size + 1, 2, none⟩ = some (.int .i64 0) := (bk_cell hq1 2).trans rfl
  have ga2 := bk_free hq1 2
  have a3 : w2.cell? ⟨w.heap.size + 1, 3, none⟩ = some (.slice none 0 0) := (bk_cell hq1 3).trans rfl
  have ga3 := bk_free hq1 3
  have b0 : w2.cell? ⟨w.heap.size + 2, 0, none⟩ = some (.int .i64 1) := (bk_cell hq2 0).trans rfl
  have gb0 := bk_free hq2 0
  have b1 : w2.cell? ⟨w.heap.size + 2, 1, none⟩ = some (.int .i64 0) := (bk_cell hq2 1).trans rfl
  have gb1 := bk_free hq2 1
  have b2 : w2.cell? ⟨w.heap.size + 2, 2, none⟩ = some (.int .i64 0) := (bk_cell hq2 2).trans rfl
  have gb2 := bk_free hq2 2
  have b3 : w2.cell? ⟨w.heap.size + 2, 3, none⟩ = some (.slice none 0 0) := (bk_cell hq2 3).trans rfl
  have gb3 := bk_free hq2 3
  have T0 : ObX g base w w2 F M' (.slice fa fn fc) ofr _ _ := ⟨P2, (ChT.of_below HH.out.2.1).trans C2, hq1, hq2, G2⟩
  have H2 : Hid _ := And.intro T0 True.intro
  clear P2 C2 hq1 hq2 G2 T0
  go_wp2
  have T := ((((((H2.out.1.s2 3 (.slice fa fn fc)).s2 0 (.int .i64 oc)).s1 0 ((.int .i64 oc))).s1 1 (.int .i64 0)).s1 2 (.int .i64 0)).s1 3 ((.slice fa fn fc)))
  try simp only [Exit.inBlock, Exit.then]
  refine bodyPost_ret (v := .agg #[(.int .i64 oc), .int .i64 0, .int .i64 0, (.slice fa fn fc)]) ?_ rfl ?_
  · exact results_cell_row (t := 43) rfl _ _ (w.heap.size + 1) _ (fr := (0, 0)) _ rfl T.h1 Try.underlying43 rfl infoFObs
  · exact ⟨_, rfl, T.f, T.P, T.C⟩
set_option maxRecDepth 20000 in
set_option maxHeartbeats 4000000 in
theorem run_5 (g base : Nat) (F : FS) (hF : fsOK F = true) (m : FX) (i : Nat) (k id n : Int) (o : Bool) (w : World) (h : FRep w g base F m) (hI : FXI F i m) (hi : i ≤ 400) (hbase : base ≤ w.heap.size) (hw : (Lit.int .i64 id).wf = true) (hk : k = 5) :
    Calls Try.prog 21 #[.pointer (some ⟨g, 0, none⟩), .agg #[.int .i64 k, .int .i64 id, .int .i64 n, .bool o]] w fun e w' => ∃ fv, e = .returned (.agg #[.int .i64 (fstep F m k id n o).2.code, .int .i64 (fstep F m k id n o).2.id, .int .i64 (fstep F m k id n o).2.cnt, fv]) ∧ GOwns 87 8 w' w.heap.size fv ((fstep F m k id n o).2.fr.map frC) ∧ FDo w w' g base F (fstep F m k id n o).1 := by
  subst hk
  have es : fstep F m 5 id n o = fend F m id := (if_neg (by decide)).trans ((if_neg (by decide)).trans ((if_neg (by decide)).trans ((if_neg (by decide)).trans (if_pos rfl))))
  rw [es]
  have hW := h.below (runW_below w 5 id n o)
  have hb0 : base ≤ (runW w 5 id n o).heap.size := Nat.le_trans hbase (runW_below w 5 id n o).size
  have C0 := endI g base F m i id _ hW hI hi hb0 hw
  obtain ⟨X, eX⟩ : ∃ X, X = fend F m id := ⟨_, rfl⟩
  have eZ : X.2.id = 0 ∧ X.2.cnt = 0 := by rw [eX]; unfold fend; split; split <;> exact ⟨rfl, rfl⟩; exact ⟨rfl, rfl⟩
  rw [← eX] at C0 ⊢
  have hB := runW_below w 5 id n o
  have hZ := runW_size w 5 id n o
  have hK := runW_bk w 5 id n o
  have HH : Hid _ := And.intro C0 (And.intro hB (And.intro hZ hK))
  unfold runW at HH
  clear h hI hW hb0 C0 hB hZ hK es eX hF hi hbase hw
  obtain ⟨M', O'⟩ := X
  dsimp only at HH ⊢
  obtain ⟨oc, oi, on, ofr⟩ := O'
  dsimp only at HH eZ ⊢
  obtain ⟨rfl, rfl⟩ := eZ
  go_enter Try.func21, Try.ntmps21
  go_wp2_with fail
  go_at_call 39
  refine HH.out.1.mono ?_
  rintro e w2 ⟨fv, rfl, G2, P2, C2⟩
  obtain ⟨fa, fn, fc, ef, efn⟩ := slice_form G2
  clear efn
  subst ef
  have G2 := G2.mono (base' := w.heap.size) (by rw [HH.out.2.2.1]; omega)
  have hq1 := C2.bk HH.out.2.2.2.1 (by decide)
  have hq2 := C2.bk HH.out.2.2.2.2 (by decide)
  have a0 : w2.cell? ⟨w.heap.size + 1, 0, none⟩ = some (.int .i64 0) := (bk_cell hq1 0).trans rfl
  have ga0 := bk_free hq1 0
  have a1 : w2.cell? ⟨w.heap.size + 1, 1, none⟩ = some (.int .i64 0) := (bk_cell hq1 1).trans rfl
  have ga1 := bk_free hq1 1
  have a2 : w2.cell? ⟨w.heap.size + 1, 2, none⟩ = some (.int .i64 0) := (bk_cell hq1 2).trans rfl
  have ga2 := bk_free hq1 2
  have a3 : w2.cell? ⟨w.heap.size + 1, 3, none⟩ = some (.slice none 0 0) := (bk_cell hq1 3).trans rfl
  have ga3 := bk_free hq1 3
  have b0 : w2.cell? ⟨w.heap.size + 2, 0, none⟩ = some (.int .i64 1) := (bk_cell hq2 0).trans rfl
  have gb0 := bk_free hq2 0
  have b1 : w2.cell? ⟨w.heap.size + 2, 1, none⟩ = some (.int .i64 0) := (bk_cell hq2 1).trans rfl
  have gb1 := bk_free hq2 1
  have b2 : w2.cell? ⟨w.heap.size + 2, 2, none⟩ = some (.int .i64 0) := (bk_cell hq2 2).trans rfl
  have gb2 := bk_free hq2 2
  have b3 : w2.cell? ⟨w.heap.size + 2, 3, none⟩ = some (.slice none 0 0) := (bk_cell hq2 3).trans rfl
  have gb3 := bk_free hq2 3
  have T0 : ObX g base w w2 F M' (.slice fa fn fc) ofr _ _ := ⟨P2, (ChT.of_below HH.out.2.1).trans C2, hq1, hq2, G2⟩
  have H2 : Hid _ := And.intro T0 True.intro
  clear P2 C2 hq1 hq2 G2 T0
  go_wp2
  have T := ((((((H2.out.1.s2 3 (.slice fa fn fc)).s2 0 (.int .i64 oc)).s1 0 ((.int .i64 oc))).s1 1 (.int .i64 0)).s1 2 (.int .i64 0)).s1 3 ((.slice fa fn fc)))
  try simp only [Exit.inBlock, Exit.then]
  refine bodyPost_ret (v := .agg #[(.int .i64 oc), .int .i64 0, .int .i64 0, (.slice fa fn fc)]) ?_ rfl ?_
  · exact results_cell_row (t := 43) rfl _ _ (w.heap.size + 1) _ (fr := (0, 0)) _ rfl T.h1 Try.underlying43 rfl infoFObs
  · exact ⟨_, rfl, T.f, T.P, T.C⟩
set_option maxRecDepth 20000 in
set_option maxHeartbeats 4000000 in
theorem run_6 (g base : Nat) (F : FS) (hF : fsOK F = true) (m : FX) (i : Nat) (k id n : Int) (o : Bool) (w : World) (h : FRep w g base F m) (hI : FXI F i m) (hi : i ≤ 400) (hbase : base ≤ w.heap.size) (hw : (Lit.int .i64 id).wf = true) (hk : k = 6) :
    Calls Try.prog 21 #[.pointer (some ⟨g, 0, none⟩), .agg #[.int .i64 k, .int .i64 id, .int .i64 n, .bool o]] w fun e w' => ∃ fv, e = .returned (.agg #[.int .i64 (fstep F m k id n o).2.code, .int .i64 (fstep F m k id n o).2.id, .int .i64 (fstep F m k id n o).2.cnt, fv]) ∧ GOwns 87 8 w' w.heap.size fv ((fstep F m k id n o).2.fr.map frC) ∧ FDo w w' g base F (fstep F m k id n o).1 := by
  subst hk
  have es : fstep F m 6 id n o = cO (fdin m n) := (if_neg (by decide)).trans ((if_neg (by decide)).trans ((if_neg (by decide)).trans ((if_neg (by decide)).trans ((if_neg (by decide)).trans (if_pos rfl)))))
  rw [es]
  have hW := h.below (runW_below w 6 id n o)
  have hb0 : base ≤ (runW w 6 id n o).heap.size := Nat.le_trans hbase (runW_below w 6 id n o).size
  have C0 := dataInI g base F m n _ hW
  obtain ⟨X, eX⟩ : ∃ X, X = fdin m n := ⟨_, rfl⟩
  rw [← eX] at C0 ⊢
  have hB := runW_below w 6 id n o
  have hZ := runW_size w 6 id n o
  have hK := runW_bk w 6 id n o
  have HH : Hid _ := And.intro C0 (And.intro hB (And.intro hZ hK))
  unfold runW at HH
  clear h hI hW hb0 C0 hB hZ hK es eX hF hi hbase hw
  obtain ⟨M', c'⟩ := X
  unfold cO
  dsimp only at HH ⊢
  go_enter Try.func21, Try.ntmps21
  go_wp2_with fail
  go_at_call 40
  refine HH.out.1.mono ?_
  rintro e w2 ⟨rfl, P2, C2⟩
  have G2 : GOwns 87 8 w2 w.heap.size (.slice none 0 0) (([] : List (Int × Int × Int)).map frC) := frames_nil _ _
  have hq1 := C2.bk HH.out.2.2.2.1 (by decide)
  have hq2 := C2.bk HH.out.2.2.2.2 (by decide)
  have a0 : w2.cell? ⟨w.heap.size + 1, 0, none⟩ = some (.int .i64 0) := (bk_cell hq1 0).trans rfl
  have ga0 := bk_free hq1 0
  have a1 : w2.cell? ⟨w.heap.size + 1, 1, none⟩ = some (.int .i64 0) := (bk_cell hq1 1).trans rfl
  have ga1 := bk_free hq1 1
  have a2 : w2.cell? ⟨w.heap.size + 1, 2, none⟩ = some (.int .i64 0) := (bk_cell hq1 2).trans rfl
  have ga2 := bk_free hq1 2
  have a3 : w2.cell? ⟨w.heap.size + 1, 3, none⟩ = some (.slice none 0 0) := (bk_cell hq1 3).trans rfl
  have ga3 := bk_free hq1 3
  have b0 : w2.cell? ⟨w.heap.size + 2, 0, none⟩ = some (.int .i64 1) := (bk_cell hq2 0).trans rfl
  have gb0 := bk_free hq2 0
  have b1 : w2.cell? ⟨w.heap.size + 2, 1, none⟩ = some (.int .i64 0) := (bk_cell hq2 1).trans rfl
  have gb1 := bk_free hq2 1
  have b2 : w2.cell? ⟨w.heap.size + 2, 2, none⟩ = some (.int .i64 0) := (bk_cell hq2 2).trans rfl
  have gb2 := bk_free hq2 2
  have b3 : w2.cell? ⟨w.heap.size + 2, 3, none⟩ = some (.slice none 0 0) := (bk_cell hq2 3).trans rfl
  have gb3 := bk_free hq2 3
  have T0 : ObX g base w w2 F M' (.slice none 0 0) [] _ _ := ⟨P2, (ChT.of_below HH.out.2.1).trans C2, hq1, hq2, G2⟩
  have H2 : Hid _ := And.intro T0 True.intro
  clear P2 C2 hq1 hq2 G2 T0
  go_wp2
  have T := (((((H2.out.1.s2 0 (.int .i64 c')).s1 0 ((.int .i64 c'))).s1 1 (.int .i64 0)).s1 2 (.int .i64 0)).s1 3 (.slice none 0 0))
  try simp only [Exit.inBlock, Exit.then]
  refine bodyPost_ret (v := .agg #[(.int .i64 c'), .int .i64 0, .int .i64 0, .slice none 0 0]) ?_ rfl ?_
  · exact results_cell_row (t := 43) rfl _ _ (w.heap.size + 1) _ (fr := (0, 0)) _ rfl T.h1 Try.underlying43 rfl infoFObs
  · exact ⟨_, rfl, T.f, T.P, T.C⟩
set_option maxRecDepth 20000 in
set_option maxHeartbeats 4000000 in
theorem run_7 (g base : Nat) (F : FS) (hF : fsOK F = true) (m : FX) (i : Nat) (k id n : Int) (o : Bool) (w : World) (h : FRep w g base F m) (hI : FXI F i m) (hi : i ≤ 400) (hbase : base ≤ w.heap.size) (hw : (Lit.int .i64 id).wf = true) (hk : k = 7) :
    Calls Try.prog 21 #[.pointer (some ⟨g, 0, none⟩), .agg #[.int .i64 k, .int .i64 id, .int .i64 n, .bool o]] w fun e w' => ∃ fv, e = .returned (.agg #[.int .i64 (fstep F m k id n o).2.code, .int .i64 (fstep F m k id n o).2.id, .int .i64 (fstep F m k id n o).2.cnt, fv]) ∧ GOwns 87 8 w' w.heap.size fv ((fstep F m k id n o).2.fr.map frC) ∧ FDo w w' g base F (fstep F m k id n o).1 := by
  subst hk
  have es : fstep F m 7 id n o = cO (fsin F m id n) := (if_neg (by decide)).trans ((if_neg (by decide)).trans ((if_neg (by decide)).trans ((if_neg (by decide)).trans ((if_neg (by decide)).trans ((if_neg (by decide)).trans (if_pos rfl))))))
  rw [es]
  have hW := h.below (runW_below w 7 id n o)
  have hb0 : base ≤ (runW w 7 id n o).heap.size := Nat.le_trans hbase (runW_below w 7 id n o).size
  have C0 := streamInI g base F m i id n _ hW hI hi hw
  obtain ⟨X, eX⟩ : ∃ X, X = fsin F m id n := ⟨_, rfl⟩
  rw [← eX] at C0 ⊢
  have hB := runW_below w 7 id n o
  have hZ := runW_size w 7 id n o
  have hK := runW_bk w 7 id n o
  have HH : Hid _ := And.intro C0 (And.intro hB (And.intro hZ hK))
  unfold runW at HH
  clear h hI hW hb0 C0 hB hZ hK es eX hF hi hbase hw
  obtain ⟨M', c'⟩ := X
  unfold cO
  dsimp only at HH ⊢
  go_enter Try.func21, Try.ntmps21
  go_wp2_with fail
  go_at_call 41
  refine HH.out.1.mono ?_
  rintro e w2 ⟨rfl, P2, C2⟩
  have G2 : GOwns 87 8 w2 w.heap.size (.slice none 0 0) (([] : List (Int × Int × Int)).map frC) := frames_nil _ _
  have hq1 := C2.bk HH.out.2.2.2.1 (by decide)
  have hq2 := C2.bk HH.out.2.2.2.2 (by decide)
  have a0 : w2.cell? ⟨w.heap.size + 1, 0, none⟩ = some (.int .i64 0) := (bk_cell hq1 0).trans rfl
  have ga0 := bk_free hq1 0
  have a1 : w2.cell? ⟨w.heap.size + 1, 1, none⟩ = some (.int .i64 0) := (bk_cell hq1 1).trans rfl
  have ga1 := bk_free hq1 1
  have a2 : w2.cell? ⟨w.heap.size + 1, 2, none⟩ = some (.int .i64 0) := (bk_cell hq1 2).trans rfl
  have ga2 := bk_free hq1 2
  have a3 : w2.cell? ⟨w.heap.size + 1, 3, none⟩ = some (.slice none 0 0) := (bk_cell hq1 3).trans rfl
  have ga3 := bk_free hq1 3
  have b0 : w2.cell? ⟨w.heap.size + 2, 0, none⟩ = some (.int .i64 1) := (bk_cell hq2 0).trans rfl
  have gb0 := bk_free hq2 0
  have b1 : w2.cell? ⟨w.heap.size + 2, 1, none⟩ = some (.int .i64 0) := (bk_cell hq2 1).trans rfl
  have gb1 := bk_free hq2 1
  have b2 : w2.cell? ⟨w.heap.size + 2, 2, none⟩ = some (.int .i64 0) := (bk_cell hq2 2).trans rfl
  have gb2 := bk_free hq2 2
  have b3 : w2.cell? ⟨w.heap.size + 2, 3, none⟩ = some (.slice none 0 0) := (bk_cell hq2 3).trans rfl
  have gb3 := bk_free hq2 3
  have T0 : ObX g base w w2 F M' (.slice none 0 0) [] _ _ := ⟨P2, (ChT.of_below HH.out.2.1).trans C2, hq1, hq2, G2⟩
  have H2 : Hid _ := And.intro T0 True.intro
  clear P2 C2 hq1 hq2 G2 T0
  go_wp2
  have T := (((((H2.out.1.s2 0 (.int .i64 c')).s1 0 ((.int .i64 c'))).s1 1 (.int .i64 0)).s1 2 (.int .i64 0)).s1 3 (.slice none 0 0))
  try simp only [Exit.inBlock, Exit.then]
  refine bodyPost_ret (v := .agg #[(.int .i64 c'), .int .i64 0, .int .i64 0, .slice none 0 0]) ?_ rfl ?_
  · exact results_cell_row (t := 43) rfl _ _ (w.heap.size + 1) _ (fr := (0, 0)) _ rfl T.h1 Try.underlying43 rfl infoFObs
  · exact ⟨_, rfl, T.f, T.P, T.C⟩
set_option maxRecDepth 20000 in
set_option maxHeartbeats 4000000 in
theorem run_8 (g base : Nat) (F : FS) (hF : fsOK F = true) (m : FX) (i : Nat) (k id n : Int) (o : Bool) (w : World) (h : FRep w g base F m) (hI : FXI F i m) (hi : i ≤ 400) (hbase : base ≤ w.heap.size) (hw : (Lit.int .i64 id).wf = true) (hk : k = 8) :
    Calls Try.prog 21 #[.pointer (some ⟨g, 0, none⟩), .agg #[.int .i64 k, .int .i64 id, .int .i64 n, .bool o]] w fun e w' => ∃ fv, e = .returned (.agg #[.int .i64 (fstep F m k id n o).2.code, .int .i64 (fstep F m k id n o).2.id, .int .i64 (fstep F m k id n o).2.cnt, fv]) ∧ GOwns 87 8 w' w.heap.size fv ((fstep F m k id n o).2.fr.map frC) ∧ FDo w w' g base F (fstep F m k id n o).1 := by
  subst hk
  have es : fstep F m 8 id n o = cO (fmin m o n) := (if_neg (by decide)).trans ((if_neg (by decide)).trans ((if_neg (by decide)).trans ((if_neg (by decide)).trans ((if_neg (by decide)).trans ((if_neg (by decide)).trans ((if_neg (by decide)).trans (if_pos rfl)))))))
  rw [es]
  have hW := h.below (runW_below w 8 id n o)
  have hb0 : base ≤ (runW w 8 id n o).heap.size := Nat.le_trans hbase (runW_below w 8 id n o).size
  have C0 := streamsInI g base F m o n _ hW
  obtain ⟨X, eX⟩ : ∃ X, X = fmin m o n := ⟨_, rfl⟩
  rw [← eX] at C0 ⊢
  have hB := runW_below w 8 id n o
  have hZ := runW_size w 8 id n o
  have hK := runW_bk w 8 id n o
  have HH : Hid _ := And.intro C0 (And.intro hB (And.intro hZ hK))
  unfold runW at HH
  clear h hI hW hb0 C0 hB hZ hK es eX hF hi hbase hw
  obtain ⟨M', c'⟩ := X
  unfold cO
  dsimp only at HH ⊢
  go_enter Try.func21, Try.ntmps21
  go_wp2_with fail
  go_at_call 42
  refine HH.out.1.mono ?_
  rintro e w2 ⟨rfl, P2, C2⟩
  have G2 : GOwns 87 8 w2 w.heap.size (.slice none 0 0) (([] : List (Int × Int × Int)).map frC) := frames_nil _ _
  have hq1 := C2.bk HH.out.2.2.2.1 (by decide)
  have hq2 := C2.bk HH.out.2.2.2.2 (by decide)
  have a0 : w2.cell? ⟨w.heap.size + 1, 0, none⟩ = some (.int .i64 0) := (bk_cell hq1 0).trans rfl
  have ga0 := bk_free hq1 0
  have a1 : w2.cell? ⟨w.heap.size + 1, 1, none⟩ = some (.int .i64 0) := (bk_cell hq1 1).trans rfl
  have ga1 := bk_free hq1 1
  have a2 : w2.cell? ⟨w.heap.size + 1, 2, none⟩ = some (.int .i64 0) := (bk_cell hq1 2).trans rfl
  have ga2 := bk_free hq1 2
  have a3 : w2.cell? ⟨w.heap.size + 1, 3, none⟩ = some (.slice none 0 0) := (bk_cell hq1 3).trans rfl
  have ga3 := bk_free hq1 3
  have b0 : w2.cell? ⟨w.heap.size + 2, 0, none⟩ = some (.int .i64 1) := (bk_cell hq2 0).trans rfl
  have gb0 := bk_free hq2 0
  have b1 : w2.cell? ⟨w.heap.size + 2, 1, none⟩ = some (.int .i64 0) := (bk_cell hq2 1).trans rfl
  have gb1 := bk_free hq2 1
  have b2 : w2.cell? ⟨w.heap.size + 2, 2, none⟩ = some (.int .i64 0) := (bk_cell hq2 2).trans rfl
  have gb2 := bk_free hq2 2
  have b3 : w2.cell? ⟨w.heap.size + 2, 3, none⟩ = some (.slice none 0 0) := (bk_cell hq2 3).trans rfl
  have gb3 := bk_free hq2 3
  have T0 : ObX g base w w2 F M' (.slice none 0 0) [] _ _ := ⟨P2, (ChT.of_below HH.out.2.1).trans C2, hq1, hq2, G2⟩
  have H2 : Hid _ := And.intro T0 True.intro
  clear P2 C2 hq1 hq2 G2 T0
  go_wp2
  have T := (((((H2.out.1.s2 0 (.int .i64 c')).s1 0 ((.int .i64 c'))).s1 1 (.int .i64 0)).s1 2 (.int .i64 0)).s1 3 (.slice none 0 0))
  try simp only [Exit.inBlock, Exit.then]
  refine bodyPost_ret (v := .agg #[(.int .i64 c'), .int .i64 0, .int .i64 0, .slice none 0 0]) ?_ rfl ?_
  · exact results_cell_row (t := 43) rfl _ _ (w.heap.size + 1) _ (fr := (0, 0)) _ rfl T.h1 Try.underlying43 rfl infoFObs
  · exact ⟨_, rfl, T.f, T.P, T.C⟩
set_option maxRecDepth 20000 in
set_option maxHeartbeats 4000000 in
theorem run_bad (g base : Nat) (F : FS) (hF : fsOK F = true) (m : FX) (i : Nat) (k id n : Int) (o : Bool) (w : World) (h : FRep w g base F m) (hI : FXI F i m) (hi : i ≤ 400) (hbase : base ≤ w.heap.size) (hw : (Lit.int .i64 id).wf = true) (hk : k < 1 ∨ 8 < k) :
    Calls Try.prog 21 #[.pointer (some ⟨g, 0, none⟩), .agg #[.int .i64 k, .int .i64 id, .int .i64 n, .bool o]] w fun e w' => ∃ fv, e = .returned (.agg #[.int .i64 (fstep F m k id n o).2.code, .int .i64 (fstep F m k id n o).2.id, .int .i64 (fstep F m k id n o).2.cnt, fv]) ∧ GOwns 87 8 w' w.heap.size fv ((fstep F m k id n o).2.fr.map frC) ∧ FDo w w' g base F (fstep F m k id n o).1 := by
  have es : fstep F m k id n o = (m, ⟨1, 0, 0, []⟩) := by
    unfold fstep
    rw [if_neg (by omega), if_neg (by omega), if_neg (by omega), if_neg (by omega), if_neg (by omega), if_neg (by omega), if_neg (by omega), if_neg (by omega)]
  rw [es]
  have hB : Below w.heap.size w (((w.alloc (.cells #[.int .i64 k, .int .i64 id, .int .i64 n, .bool o] 46)).alloc (.cells #[.int .i64 1, .int .i64 0, .int .i64 0, .slice none 0 0] 43)).alloc (.cells #[.int .i64 1, .int .i64 0, .int .i64 0, .slice none 0 0] 43)) := (((Below.refl _ _).alloc (Nat.le_refl _) _).alloc (by simp) _).alloc (by simp; omega) _
  have hW := h.below hB
  have hK := (bk_new3 w (.cells #[.int .i64 k, .int .i64 id, .int .i64 n, .bool o] 46) (.cells #[.int .i64 1, .int .i64 0, .int .i64 0, .slice none 0 0] 43) (.cells #[.int .i64 1, .int .i64 0, .int .i64 0, .slice none 0 0] 43)).2
  have T0 : ObX g base w _ F m (.slice none 0 0) [] _ _ := ⟨hW, ChT.of_below hB, hK.1, hK.2, frames_nil _ _⟩
  have HH : Hid _ := And.intro T0 True.intro
  have q1 : ¬ k = 1 := by omega
  have q2 : ¬ k = 2 := by omega
  have q3 : ¬ k = 3 := by omega
  have q4 : ¬ k = 4 := by omega
  have q5 : ¬ k = 5 := by omega
  have q6 : ¬ k = 6 := by omega
  have q7 : ¬ k = 7 := by omega
  have q8 : ¬ k = 8 := by omega
  clear h hI hW hB hK T0 hF hi hbase hw es hk
  go_enter Try.func21, Try.ntmps21
  go_wp2
  have T := HH.out.1
  try simp only [Exit.inBlock, Exit.then]
  refine bodyPost_ret (v := .agg #[.int .i64 1, .int .i64 0, .int .i64 0, .slice none 0 0]) ?_ rfl ?_
  · exact results_cell_row (t := 43) rfl _ _ (w.heap.size + 1) _ (fr := (0, 0)) _ rfl T.h1 Try.underlying43 rfl infoFObs
  · exact ⟨_, rfl, T.f, T.P, T.C⟩
theorem runI (g base : Nat) (F : FS) (hF : fsOK F = true) (m : FX) (i : Nat) (k id n : Int) (o : Bool) (w : World) (h : FRep w g base F m) (hI : FXI F i m) (hi : i ≤ 400) (hbase : base ≤ w.heap.size) (hw : (Lit.int .i64 id).wf = true) :
    Calls Try.prog 21 #[.pointer (some ⟨g, 0, none⟩), .agg #[.int .i64 k, .int .i64 id, .int .i64 n, .bool o]] w fun e w' => ∃ fv, e = .returned (.agg #[.int .i64 (fstep F m k id n o).2.code, .int .i64 (fstep F m k id n o).2.id, .int .i64 (fstep F m k id n o).2.cnt, fv]) ∧ GOwns 87 8 w' w.heap.size fv ((fstep F m k id n o).2.fr.map frC) ∧ FDo w w' g base F (fstep F m k id n o).1 := by
  by_cases hk : k < 1 ∨ 8 < k
  · exact run_bad g base F hF m i k id n o w h hI hi hbase hw hk
  obtain rfl | rfl | rfl | rfl | rfl | rfl | rfl | rfl : k = 1 ∨ k = 2 ∨ k = 3 ∨ k = 4 ∨ k = 5 ∨ k = 6 ∨ k = 7 ∨ k = 8 := by omega
  · exact run_1 g base F hF m i _ id n o w h hI hi hbase hw rfl
  · exact run_2 g base F hF m i _ id n o w h hI hi hbase hw rfl
  · exact run_3 g base F hF m i _ id n o w h hI hi hbase hw rfl
  · exact run_4 g base F hF m i _ id n o w h hI hi hbase hw rfl
  · exact run_5 g base F hF m i _ id n o w h hI hi hbase hw rfl
  · exact run_6 g base F hF m i _ id n o w h hI hi hbase hw rfl
  · exact run_7 g base F hF m i _ id n o w h hI hi hbase hw rfl
  · exact run_8 g base F hF m i _ id n o w h hI hi hbase hw rfl
end Go.Proofs.Ytcoakpmfappnlaa
