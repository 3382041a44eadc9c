import Derived.Test.YtaodcahkkeobdaaFrmO
import Derived.Test.YtaodcahkkeobdaaFrameW
import Derived.Test.YtaodcahkkeobdaaAppPair
namespace Go.Proofs.Ytaodcahkkeobdaa
open Go.RowKit
set_option linter.unusedVariables false

theorem results_row_tmpA {P : Program} {fn : Func} {p q : Tmp} {ty : TypeId} (h : fn.results = #[.cell p ty, .tmp q]) (tmps : Array Value) (w : World) (g : Nat) (t : TypeId) (cs : Array Value) (fr : Nat × Nat) (d : TypeDesc) (u : Value)
    (hp : tmps.getD p undef = .pointer (some ⟨g, 0, none⟩)) (hq : tmps.getD q undef = u) (hg : w.heap[g]? = some (.cells cs t fr))
    (hu : P.underlying ty = some d) (hd : (match d with | .struct _ | .array _ _ => true | _ => false) = true) (hi : (P.info? ty).map (·.size) = some cs.size) :
    (results fn tmps).run P w = .ok (.tuple #[.agg cs, u]) w := by
  have hp' : tmps[p]?.getD undef = .pointer (some ⟨g, 0, none⟩) := by simpa using hp
  have hq' : tmps[q]?.getD undef = u := by simpa using hq
  simp [results, h, hp', hq', asAddr, run_loadVar_row w g t ty cs fr d hg hu hd hi]
abbrev sf8 (w : World) (g : Nat) (a0 a1 a2 a3 a4 a5 a6 a7 : Value) : World := ((((((((w.setCell ⟨g, 0, none⟩ a0).setCell ⟨g, 1, none⟩ a1).setCell ⟨g, 2, none⟩ a2).setCell ⟨g, 3, none⟩ a3).setCell ⟨g, 4, none⟩ a4).setCell ⟨g, 5, none⟩ a5).setCell ⟨g, 6, none⟩ a6).setCell ⟨g, 7, none⟩ a7)
theorem sf8_heap {w : World} {g : Nat} {a0 a1 a2 a3 a4 a5 a6 a7 c0 c1 c2 c3 c4 c5 c6 c7 : Value} {t : TypeId} (h : w.heap[g]? = some (.cells #[c0, c1, c2, c3, c4, c5, c6, c7] t (0, 0))) : (sf8 w g a0 a1 a2 a3 a4 a5 a6 a7).heap[g]? = some (.cells #[a0, a1, a2, a3, a4, a5, a6, a7] t (0, 0)) :=
  (bk_set (bk_set (bk_set (bk_set (bk_set (bk_set (bk_set (bk_set (h) 0 a0) 1 a1) 2 a2) 3 a3) 4 a4) 5 a5) 6 a6) 7 a7).trans (congrArg (fun x => some (Obj.cells x t (0, 0))) (by simp))
theorem sf8_below {w0 w : World} {B g : Nat} {a0 a1 a2 a3 a4 a5 a6 a7 : Value} (h : Below B w0 w) (hg : B ≤ g) : Below B w0 (sf8 w g a0 a1 a2 a3 a4 a5 a6 a7) :=
  Below.setCell (p := ⟨g, 7, none⟩) (Below.setCell (p := ⟨g, 6, none⟩) (Below.setCell (p := ⟨g, 5, none⟩) (Below.setCell (p := ⟨g, 4, none⟩) (Below.setCell (p := ⟨g, 3, none⟩) (Below.setCell (p := ⟨g, 2, none⟩) (Below.setCell (p := ⟨g, 1, none⟩) (Below.setCell (p := ⟨g, 0, none⟩) (h) hg _) hg _) hg _) hg _) hg _) hg _) hg _) hg _
theorem sf8_rowns {w : World} {base g : Nat} {a0 a1 a2 a3 a4 a5 a6 a7 v : Value} {R : List (Int × Int)} (h : ROwns w base v R) (hg : g < base) : ROwns (sf8 w g a0 a1 a2 a3 a4 a5 a6 a7) base v R :=
  ROwns.cell (g := g) (i := 7) (ROwns.cell (g := g) (i := 6) (ROwns.cell (g := g) (i := 5) (ROwns.cell (g := g) (i := 4) (ROwns.cell (g := g) (i := 3) (ROwns.cell (g := g) (i := 2) (ROwns.cell (g := g) (i := 1) (ROwns.cell (g := g) (i := 0) (h) hg) hg) hg) hg) hg) hg) hg) hg

theorem lit_grown {w1 w3 : World} {o : Obj} (g : (w1.alloc o).grownBy w3 (Value.slice (some ⟨w1.heap.size, 0, none⟩) 0 0).ownBlock) : Below w1.heap.size w1 w3 :=
  ((Below.refl _ _).alloc (Nat.le_refl _) o).grown g (by simp) (fun t ht => by
    have e : w1.heap.size = t := by simpa [Value.ownBlock] using ht
    omega)
abbrev ackF (R : List (Int × Int)) (n : Int) : F8 := ⟨2, n, 0, 0, false, [], [], R⟩
abbrev zeroF : F8 := ⟨0, 0, 0, 0, false, [], [], []⟩
def ackS (R : List (Int × Int)) (n : Int) : Bool := rokV R && decide (0 < R.length) && nin n
theorem fown_nil (w : World) (base : Nat) : FOwns w base (.agg #[.int .i64 0, .int .i64 0, .int .i64 0, .int .i64 0, .bool false, .slice none 0 0, .slice none 0 0, .slice none 0 0]) zeroF := ⟨_, _, _, rfl, World.ownsRow_nil _ _ _ _, World.ownsRow_nil _ _ _ _, ⟨[], World.ownsRow_nil _ _ _ _, fun j hj => by simp at hj⟩, fun k hk => (by cases hk), fun k hk => (by cases hk)⟩
theorem fown_ack {w : World} {base : Nat} {r : Value} {R : List (Int × Int)} {n : Int} (h : ROwns w base r R) : FOwns w base (.agg #[.int .i64 2, .int .i64 n, .int .i64 0, .int .i64 0, .bool false, .slice none 0 0, .slice none 0 0, r]) (ackF R n) := ⟨_, _, _, rfl, World.ownsRow_nil _ _ _ _, World.ownsRow_nil _ _ _ _, h, fun k hk => (by cases hk), fun k hk => ⟨fun e => (by cases e), fun e => (by cases e)⟩⟩
theorem ackOK (R : List (Int × Int)) (n : Int) (hR : R.length ≤ 1048576) (ar : Option Addr) (pr : Nat) (w : World) (h : RRow w (.slice ar R.length pr) R) :
    Calls Try.prog 25 #[.agg #[.int .i64 2, .int .i64 n, .int .i64 0, .int .i64 0, .bool false, .slice none 0 0, .slice none 0 0, .slice ar R.length pr]] w fun e w' => e = .returned (.bool (ackS R n)) ∧ Below w.heap.size w w' := by
  have hb := (both_ack n 0 0 false 0 0 R.length R rfl (by decide) (Nat.le_trans hR (by decide))).2 none none ar 0 0 pr w h
  rw [← eq_ack n 0 0 false 0 0 R.length R (hR_of R R.length rfl)] at hb
  have e : (ok1 n 0 0 false true true false false false && ok2 0 0 R.length R true 0 0 0 && ok3 2 n 0 0) = ackS R n := by
    have e3 : ok3 2 n 0 0 = true := by unfold ok3; rw [if_neg (by decide), if_neg (by decide), if_neg (by decide), if_neg (by decide), if_neg (by decide)]
    have e0 : nin 0 = true := by decide
    unfold ok1 ok2 ackS
    rw [e3, e0, pos_nat]
    generalize nin n = a
    generalize (n != 0) = d
    generalize rokV R = b
    generalize decide ((0 : Int) < (R.length : Int)) = c
    revert a b c d
    decide +kernel
  rw [e] at hb
  exact hb

set_option maxRecDepth 20000 in
set_option maxHeartbeats 2000000 in
theorem afS_badR (v : Value) (R : List (Int × Int)) (n : Int) (w : World) (h : RRow w v R) (hR : R.length ≤ 1048576) (hr : rokV R = false) :
    Calls Try.prog 6 #[v, .int .i64 n] w fun e w' => ∃ r, e = .returned (.tuple #[r, .int .i64 1]) ∧ FOwns w' w.heap.size r zeroF ∧ Below w.heap.size w w' := by
  have A0 : Below w.heap.size w (w.alloc (.cells #[.int .i64 0, .int .i64 0, .int .i64 0, .int .i64 0, .bool false, .slice none 0 0, .slice none 0 0, .slice none 0 0] 27)) := (Below.refl _ _).alloc (Nat.le_refl _) _
  have K0 := heap_alloc_new w (.cells #[.int .i64 0, .int .i64 0, .int .i64 0, .int .i64 0, .bool false, .slice none 0 0, .slice none 0 0, .slice none 0 0] 27)
  have OK := rokS v R _ (h.below A0) (Nat.le_trans hR (by decide))
  rw [hr] at OK
  have HH : Hid _ := And.intro OK (And.intro A0 (And.intro K0 True.intro))
  obtain ⟨ao, cp, rfl⟩ := h.form
  clear OK h A0 K0
  go_enter Try.func6, Try.ntmps6
  go_wp2_with fail
  go_at_call 22
  refine HH.out.1.mono ?_
  rintro e w1 ⟨rfl, b1⟩
  have K1 := (b1.block w.heap.size (by simp)).trans HH.out.2.2.1
  have L1 : w.heap.size < w1.heap.size := (Array.getElem?_eq_some_iff.1 K1).1
  have z0 : w1.cell? ⟨w.heap.size, 0, none⟩ = some (.int .i64 0) := bk_cell K1 0
  have zf0 : w1.frozen? ⟨w.heap.size, 0, none⟩ = false := bk_free K1 0
  have z1 : w1.cell? ⟨w.heap.size, 1, none⟩ = some (.int .i64 0) := bk_cell K1 1
  have zf1 : w1.frozen? ⟨w.heap.size, 1, none⟩ = false := bk_free K1 1
  have z2 : w1.cell? ⟨w.heap.size, 2, none⟩ = some (.int .i64 0) := bk_cell K1 2
  have zf2 : w1.frozen? ⟨w.heap.size, 2, none⟩ = false := bk_free K1 2
  have z3 : w1.cell? ⟨w.heap.size, 3, none⟩ = some (.int .i64 0) := bk_cell K1 3
  have zf3 : w1.frozen? ⟨w.heap.size, 3, none⟩ = false := bk_free K1 3
  have z4 : w1.cell? ⟨w.heap.size, 4, none⟩ = some (.bool false) := bk_cell K1 4
  have zf4 : w1.frozen? ⟨w.heap.size, 4, none⟩ = false := bk_free K1 4
  have z5 : w1.cell? ⟨w.heap.size, 5, none⟩ = some (.slice none 0 0) := bk_cell K1 5
  have zf5 : w1.frozen? ⟨w.heap.size, 5, none⟩ = false := bk_free K1 5
  have z6 : w1.cell? ⟨w.heap.size, 6, none⟩ = some (.slice none 0 0) := bk_cell K1 6
  have zf6 : w1.frozen? ⟨w.heap.size, 6, none⟩ = false := bk_free K1 6
  have z7 : w1.cell? ⟨w.heap.size, 7, none⟩ = some (.slice none 0 0) := bk_cell K1 7
  have zf7 : w1.frozen? ⟨w.heap.size, 7, none⟩ = false := bk_free K1 7
  have H1 : Hid _ := And.intro (HH.out.2.1.trans (b1.mono HH.out.2.1.size)) K1
  clear b1 K1
  go_wp2_with fail
  refine bodyPost_ret (v := .tuple #[.agg #[.int .i64 0, .int .i64 0, .int .i64 0, .int .i64 0, .bool false, .slice none 0 0, .slice none 0 0, .slice none 0 0], .int .i64 1]) ?_ rfl ?_
  · exact results_row_tmpA (t := 27) rfl _ _ w.heap.size _ (fr := (0, 0)) _ _ rfl rfl (sf8_heap H1.out.2) Try.underlying27 rfl infoFrm
  · exact ⟨_, rfl, fown_nil _ _, sf8_below H1.out.1 (Nat.le_refl _)⟩
set_option maxRecDepth 20000 in
set_option maxHeartbeats 2000000 in
theorem afS_badL (v : Value) (R : List (Int × Int)) (n : Int) (w : World) (h : RRow w v R) (hR : R.length ≤ 1048576) (hr : rokV R = true) (h0 : R.length = 0) :
    Calls Try.prog 6 #[v, .int .i64 n] w fun e w' => ∃ r, e = .returned (.tuple #[r, .int .i64 1]) ∧ FOwns w' w.heap.size r zeroF ∧ Below w.heap.size w w' := by
  have A0 : Below w.heap.size w (w.alloc (.cells #[.int .i64 0, .int .i64 0, .int .i64 0, .int .i64 0, .bool false, .slice none 0 0, .slice none 0 0, .slice none 0 0] 27)) := (Below.refl _ _).alloc (Nat.le_refl _) _
  have K0 := heap_alloc_new w (.cells #[.int .i64 0, .int .i64 0, .int .i64 0, .int .i64 0, .bool false, .slice none 0 0, .slice none 0 0, .slice none 0 0] 27)
  have OK := rokS v R _ (h.below A0) (Nat.le_trans hR (by decide))
  rw [hr] at OK
  have HH : Hid _ := And.intro OK (And.intro A0 (And.intro K0 True.intro))
  obtain ⟨ao, cp, rfl⟩ := h.form
  rw [h0] at HH ⊢
  clear OK h A0 K0
  go_enter Try.func6, Try.ntmps6
  go_wp2_with fail
  go_at_call 22
  refine HH.out.1.mono ?_
  rintro e w1 ⟨rfl, b1⟩
  have K1 := (b1.block w.heap.size (by simp)).trans HH.out.2.2.1
  have L1 : w.heap.size < w1.heap.size := (Array.getElem?_eq_some_iff.1 K1).1
  have z0 : w1.cell? ⟨w.heap.size, 0, none⟩ = some (.int .i64 0) := bk_cell K1 0
  have zf0 : w1.frozen? ⟨w.heap.size, 0, none⟩ = false := bk_free K1 0
  have z1 : w1.cell? ⟨w.heap.size, 1, none⟩ = some (.int .i64 0) := bk_cell K1 1
  have zf1 : w1.frozen? ⟨w.heap.size, 1, none⟩ = false := bk_free K1 1
  have z2 : w1.cell? ⟨w.heap.size, 2, none⟩ = some (.int .i64 0) := bk_cell K1 2
  have zf2 : w1.frozen? ⟨w.heap.size, 2, none⟩ = false := bk_free K1 2
  have z3 : w1.cell? ⟨w.heap.size, 3, none⟩ = some (.int .i64 0) := bk_cell K1 3
  have zf3 : w1.frozen? ⟨w.heap.size, 3, none⟩ = false := bk_free K1 3
  have z4 : w1.cell? ⟨w.heap.size, 4, none⟩ = some (.bool false) := bk_cell K1 4
  have zf4 : w1.frozen? ⟨w.heap.size, 4, none⟩ = false := bk_free K1 4
  have z5 : w1.cell? ⟨w.heap.size, 5, none⟩ = some (.slice none 0 0) := bk_cell K1 5
  have zf5 : w1.frozen? ⟨w.heap.size, 5, none⟩ = false := bk_free K1 5
  have z6 : w1.cell? ⟨w.heap.size, 6, none⟩ = some (.slice none 0 0) := bk_cell K1 6
  have zf6 : w1.frozen? ⟨w.heap.size, 6, none⟩ = false := bk_free K1 6
  have z7 : w1.cell? ⟨w.heap.size, 7, none⟩ = some (.slice none 0 0) := bk_cell K1 7
  have zf7 : w1.frozen? ⟨w.heap.size, 7, none⟩ = false := bk_free K1 7
  have H1 : Hid _ := And.intro (HH.out.2.1.trans (b1.mono HH.out.2.1.size)) K1
  clear b1 K1
  go_wp2_with fail
  refine bodyPost_ret (v := .tuple #[.agg #[.int .i64 0, .int .i64 0, .int .i64 0, .int .i64 0, .bool false, .slice none 0 0, .slice none 0 0, .slice none 0 0], .int .i64 1]) ?_ rfl ?_
  · exact results_row_tmpA (t := 27) rfl _ _ w.heap.size _ (fr := (0, 0)) _ _ rfl rfl (sf8_heap H1.out.2) Try.underlying27 rfl infoFrm
  · exact ⟨_, rfl, fown_nil _ _, sf8_below H1.out.1 (Nat.le_refl _)⟩
set_option maxRecDepth 20000 in
set_option maxHeartbeats 2000000 in
theorem afS_badN (v : Value) (R : List (Int × Int)) (n : Int) (w : World) (h : RRow w v R) (hR : R.length ≤ 1048576) (hr : rokV R = true) (h0 : 0 < R.length) (hn : nin n = false) :
    Calls Try.prog 6 #[v, .int .i64 n] w fun e w' => ∃ r, e = .returned (.tuple #[r, .int .i64 1]) ∧ FOwns w' w.heap.size r zeroF ∧ Below w.heap.size w w' := by
  have A0 : Below w.heap.size w (w.alloc (.cells #[.int .i64 0, .int .i64 0, .int .i64 0, .int .i64 0, .bool false, .slice none 0 0, .slice none 0 0, .slice none 0 0] 27)) := (Below.refl _ _).alloc (Nat.le_refl _) _
  have K0 := heap_alloc_new w (.cells #[.int .i64 0, .int .i64 0, .int .i64 0, .int .i64 0, .bool false, .slice none 0 0, .slice none 0 0, .slice none 0 0] 27)
  have OK := rokS v R _ (h.below A0) (Nat.le_trans hR (by decide))
  rw [hr] at OK
  have VN := fun w => varC n w
  rw [hn] at VN
  have HH : Hid _ := And.intro OK (And.intro A0 (And.intro K0 VN))
  obtain ⟨ao, cp, rfl⟩ := h.form
  obtain ⟨m, em⟩ : ∃ m, m = R.length := ⟨_, rfl⟩
  rw [← em] at h0 HH ⊢
  have hne : ((m : Int) == 0) = false := by simp; omega
  clear em
  clear OK h A0 K0 VN
  go_enter Try.func6, Try.ntmps6
  go_wp2_with fail
  go_at_call 22
  refine HH.out.1.mono ?_
  rintro e w1 ⟨rfl, b1⟩
  have K1 := (b1.block w.heap.size (by simp)).trans HH.out.2.2.1
  have L1 : w.heap.size < w1.heap.size := (Array.getElem?_eq_some_iff.1 K1).1
  have z0 : w1.cell? ⟨w.heap.size, 0, none⟩ = some (.int .i64 0) := bk_cell K1 0
  have zf0 : w1.frozen? ⟨w.heap.size, 0, none⟩ = false := bk_free K1 0
  have z1 : w1.cell? ⟨w.heap.size, 1, none⟩ = some (.int .i64 0) := bk_cell K1 1
  have zf1 : w1.frozen? ⟨w.heap.size, 1, none⟩ = false := bk_free K1 1
  have z2 : w1.cell? ⟨w.heap.size, 2, none⟩ = some (.int .i64 0) := bk_cell K1 2
  have zf2 : w1.frozen? ⟨w.heap.size, 2, none⟩ = false := bk_free K1 2
  have z3 : w1.cell? ⟨w.heap.size, 3, none⟩ = some (.int .i64 0) := bk_cell K1 3
  have zf3 : w1.frozen? ⟨w.heap.size, 3, none⟩ = false := bk_free K1 3
  have z4 : w1.cell? ⟨w.heap.size, 4, none⟩ = some (.bool false) := bk_cell K1 4
  have zf4 : w1.frozen? ⟨w.heap.size, 4, none⟩ = false := bk_free K1 4
  have z5 : w1.cell? ⟨w.heap.size, 5, none⟩ = some (.slice none 0 0) := bk_cell K1 5
  have zf5 : w1.frozen? ⟨w.heap.size, 5, none⟩ = false := bk_free K1 5
  have z6 : w1.cell? ⟨w.heap.size, 6, none⟩ = some (.slice none 0 0) := bk_cell K1 6
  have zf6 : w1.frozen? ⟨w.heap.size, 6, none⟩ = false := bk_free K1 6
  have z7 : w1.cell? ⟨w.heap.size, 7, none⟩ = some (.slice none 0 0) := bk_cell K1 7
  have zf7 : w1.frozen? ⟨w.heap.size, 7, none⟩ = false := bk_free K1 7
  have H1 : Hid _ := And.intro (HH.out.2.1.trans (b1.mono HH.out.2.1.size)) K1
  clear b1 K1
  go_wp2_with (go_at_call 23; refine (HH.out.2.2.2 _).mono ?_; rintro e w2 ⟨rfl, hw⟩; subst w2)
  refine bodyPost_ret (v := .tuple #[.agg #[.int .i64 0, .int .i64 0, .int .i64 0, .int .i64 0, .bool false, .slice none 0 0, .slice none 0 0, .slice none 0 0], .int .i64 1]) ?_ rfl ?_
  · exact results_row_tmpA (t := 27) rfl _ _ w.heap.size _ (fr := (0, 0)) _ _ rfl rfl (sf8_heap H1.out.2) Try.underlying27 rfl infoFrm
  · exact ⟨_, rfl, fown_nil _ _, sf8_below H1.out.1 (Nat.le_refl _)⟩
set_option maxRecDepth 20000 in
set_option maxHeartbeats 2000000 in
theorem afS_ok (v : Value) (R : List (Int × Int)) (n : Int) (w : World) (h : RRow w v R) (hR : R.length ≤ 1048576) (hr : rokV R = true) (h0 : 0 < R.length) (hn : nin n = true) :
    Calls Try.prog 6 #[v, .int .i64 n] w fun e w' => ∃ r, e = .returned (.tuple #[r, .int .i64 0]) ∧ FOwns w' w.heap.size r (ackF R n) ∧ Below w.heap.size w w' := by
  have A0 : Below w.heap.size w (w.alloc (.cells #[.int .i64 0, .int .i64 0, .int .i64 0, .int .i64 0, .bool false, .slice none 0 0, .slice none 0 0, .slice none 0 0] 27)) := (Below.refl _ _).alloc (Nat.le_refl _) _
  have K0 := heap_alloc_new w (.cells #[.int .i64 0, .int .i64 0, .int .i64 0, .int .i64 0, .bool false, .slice none 0 0, .slice none 0 0, .slice none 0 0] 27)
  have OK := rokS v R _ (h.below A0) (Nat.le_trans hR (by decide))
  rw [hr] at OK
  have VN := fun w => varC n w
  rw [hn] at VN
  have HH : Hid _ := And.intro OK (And.intro A0 (And.intro K0 (And.intro VN (And.intro h hR))))
  obtain ⟨ao, cp, rfl⟩ := h.form
  obtain ⟨m, em⟩ : ∃ m, m = R.length := ⟨_, rfl⟩
  rw [← em] at h0 HH ⊢
  have hne : ((m : Int) == 0) = false := by simp; omega
  have EM : Hid _ := And.intro em True.intro
  clear OK h A0 K0 VN em hR
  go_enter Try.func6, Try.ntmps6
  go_wp2_with fail
  go_at_call 22
  refine HH.out.1.mono ?_
  rintro e w1 ⟨rfl, b1⟩
  have K1 := (b1.block w.heap.size (by simp)).trans HH.out.2.2.1
  have L1 : w.heap.size < w1.heap.size := (Array.getElem?_eq_some_iff.1 K1).1
  have B1 := HH.out.2.1.trans (b1.mono HH.out.2.1.size)
  have H1 : Hid _ := And.intro B1 (And.intro K1 (HH.out.2.2.2.2.1.below B1))
  clear b1 K1 B1
  have AL : Hid (∀ o : Obj, Below w1.heap.size w1 (w1.alloc o)) := fun o => (Below.refl _ _).alloc (Nat.le_refl _) o
  go_wp2_with (first
    | (go_at_call 23; refine (HH.out.2.2.2.1 _).mono ?_; rintro e w2 ⟨rfl, hw⟩; subst w2)
    | (at_builtin; refine wpList_append_pairs rfl (.tmp 21) (.tmp 22) 25 50 rfl Try.underlying25 infoRg' w1.heap.size (.slice (some ⟨w1.heap.size, 0, none⟩) 0 0) [] rfl (POwns.lit0 _ w1 w1.heap.size (Nat.le_refl _)) _ R rfl (H1.out.2.2.below (AL.out _)) (by simp only [List.length_nil]; have := HH.out.2.2.2.2.2; have := EM.out.1; omega) (AL.out _).size ?_; intro r w3 o3' g3; have o3 : POwns 50 w3 w1.heap.size r R := o3'; clear o3'; obtain ⟨ra, rc, hr3⟩ := o3.row.form; subst hr3; have B3 : Below w1.heap.size w1 w3 := lit_grown g3; have K3 := (B3.block w.heap.size L1).trans H1.out.2.1; have L3 : w.heap.size < w3.heap.size := (Array.getElem?_eq_some_iff.1 K3).1; have H3 : Hid _ := And.intro o3 (And.intro (H1.out.1.trans (B3.mono H1.out.1.size)) K3); have z0 : w3.cell? ⟨w.heap.size, 0, none⟩ = some (.int .i64 0) := bk_cell K3 0; have zf0 : w3.frozen? ⟨w.heap.size, 0, none⟩ = false := bk_free K3 0; have z1 : w3.cell? ⟨w.heap.size, 1, none⟩ = some (.int .i64 0) := bk_cell K3 1; have zf1 : w3.frozen? ⟨w.heap.size, 1, none⟩ = false := bk_free K3 1; have z2 : w3.cell? ⟨w.heap.size, 2, none⟩ = some (.int .i64 0) := bk_cell K3 2; have zf2 : w3.frozen? ⟨w.heap.size, 2, none⟩ = false := bk_free K3 2; have z3 : w3.cell? ⟨w.heap.size, 3, none⟩ = some (.int .i64 0) := bk_cell K3 3; have zf3 : w3.frozen? ⟨w.heap.size, 3, none⟩ = false := bk_free K3 3; have z4 : w3.cell? ⟨w.heap.size, 4, none⟩ = some (.bool false) := bk_cell K3 4; have zf4 : w3.frozen? ⟨w.heap.size, 4, none⟩ = false := bk_free K3 4; have z5 : w3.cell? ⟨w.heap.size, 5, none⟩ = some (.slice none 0 0) := bk_cell K3 5; have zf5 : w3.frozen? ⟨w.heap.size, 5, none⟩ = false := bk_free K3 5; have z6 : w3.cell? ⟨w.heap.size, 6, none⟩ = some (.slice none 0 0) := bk_cell K3 6; have zf6 : w3.frozen? ⟨w.heap.size, 6, none⟩ = false := bk_free K3 6; have z7 : w3.cell? ⟨w.heap.size, 7, none⟩ = some (.slice none 0 0) := bk_cell K3 7; have zf7 : w3.frozen? ⟨w.heap.size, 7, none⟩ = false := bk_free K3 7; clear o3 g3 B3 K3))
  refine bodyPost_ret (v := .tuple #[.agg #[.int .i64 2, .int .i64 n, .int .i64 0, .int .i64 0, .bool false, .slice none 0 0, .slice none 0 0, .slice ra R.length rc], .int .i64 0]) ?_ rfl ?_
  · exact results_row_tmpA (t := 27) rfl _ _ w.heap.size _ (fr := (0, 0)) _ _ rfl rfl (sf8_heap H3.out.2.2) Try.underlying27 rfl infoFrm
  · have ro : ROwns w3 w1.heap.size (.slice ra R.length rc) R := H3.out.1
    exact ⟨_, rfl, (fown_ack (sf8_rowns ro L1)).mono (Nat.le_of_lt L1), sf8_below H3.out.2.1 (Nat.le_refl _)⟩

theorem ne_nil (g off n cp : Nat) (w : World) : (binOp .eql 25 (.slice (some ⟨g, off, none⟩) n cp) (.slice none 0 0)).run Try.prog w = .ok (.bool false) w := by kernel_rfl
set_option maxRecDepth 20000 in
set_option maxHeartbeats 2000000 in
theorem cloneR (g off cp : Nat) (R : List (Int × Int)) (w : World) (h : RRow w (.slice (some ⟨g, off, none⟩) R.length cp) R) (hR : R.length ≤ 1048576) :
    Calls Try.prog 26 #[.slice (some ⟨g, off, none⟩) R.length cp] w fun e w' => ∃ r, e = .returned r ∧ POwns 50 w' w.heap.size r R ∧ Below w.heap.size w w' := by
  have AL : Hid (∀ o : Obj, Below w.heap.size w (w.alloc o)) := fun o => (Below.refl _ _).alloc (Nat.le_refl _) o
  have HH : Hid _ := And.intro h hR
  clear h hR
  have hnil := ne_nil g off R.length cp w
  go_enter Try.func26, Try.ntmps26
  go_wp2_with (at_builtin; refine wpList_append_pairs rfl (.tmp 5) (.tmp 6) 25 50 rfl Try.underlying25 infoRg' w.heap.size (.slice (some ⟨w.heap.size, 0, none⟩) 0 0) [] rfl (POwns.lit0 _ w w.heap.size (Nat.le_refl _)) _ R rfl (HH.out.1.below (AL.out _)) (by simp only [List.length_nil]; have := HH.out.2; omega) (AL.out _).size ?_; intro r w3 o3 g3)
  have B3 : Below w.heap.size w w3 := (AL.out _).grown g3 (AL.out _).size (fun t ht => by
    have e : w.heap.size = t := by simpa [Value.ownBlock] using ht
    omega)
  have H3 : Hid _ := And.intro o3 B3
  clear o3 g3 B3
  go_wp2
  go_ret
  exact ⟨_, rfl, H3.out.1, H3.out.2⟩

set_option maxRecDepth 20000 in
set_option maxHeartbeats 2000000 in
theorem afI_bad (v : Value) (R : List (Int × Int)) (n : Int) (w : World) (h : RRow w v R) (hR : R.length ≤ 1048576) (hs : ackS R n = false) :
    Calls Try.prog 8 #[v, .int .i64 n] w fun e w' => ∃ r, e = .returned (.tuple #[r, .int .i64 1]) ∧ FOwns w' w.heap.size r zeroF ∧ Below w.heap.size w w' := by
  have A0 : Below w.heap.size w ((w.alloc (.cells #[.int .i64 0, .int .i64 0, .int .i64 0, .int .i64 0, .bool false, .slice none 0 0, .slice none 0 0, .slice none 0 0] 27)).alloc (.cells #[.int .i64 2, .int .i64 n, .int .i64 0, .int .i64 0, .bool false, .slice none 0 0, .slice none 0 0, v] 27)) := ((Below.refl _ _).alloc (Nat.le_refl _) _).alloc (by simp) _
  have K0 : ((w.alloc (.cells #[.int .i64 0, .int .i64 0, .int .i64 0, .int .i64 0, .bool false, .slice none 0 0, .slice none 0 0, .slice none 0 0] 27)).alloc (.cells #[.int .i64 2, .int .i64 n, .int .i64 0, .int .i64 0, .bool false, .slice none 0 0, .slice none 0 0, v] 27)).heap[w.heap.size]? = some (.cells #[.int .i64 0, .int .i64 0, .int .i64 0, .int .i64 0, .bool false, .slice none 0 0, .slice none 0 0, .slice none 0 0] 27 (0, 0)) := by
    rw [Below.heap_alloc _ _ _ (by simp)]; exact heap_alloc_new w _
  have K1 : ((w.alloc (.cells #[.int .i64 0, .int .i64 0, .int .i64 0, .int .i64 0, .bool false, .slice none 0 0, .slice none 0 0, .slice none 0 0] 27)).alloc (.cells #[.int .i64 2, .int .i64 n, .int .i64 0, .int .i64 0, .bool false, .slice none 0 0, .slice none 0 0, v] 27)).heap[w.heap.size + 1]? = some (.cells #[.int .i64 2, .int .i64 n, .int .i64 0, .int .i64 0, .bool false, .slice none 0 0, .slice none 0 0, v] 27 (0, 0)) := by
    have := heap_alloc_new (w.alloc (.cells #[.int .i64 0, .int .i64 0, .int .i64 0, .int .i64 0, .bool false, .slice none 0 0, .slice none 0 0, .slice none 0 0] 27)) (.cells #[.int .i64 2, .int .i64 n, .int .i64 0, .int .i64 0, .bool false, .slice none 0 0, .slice none 0 0, v] 27)
    simpa using this
  obtain ⟨ao, cp, ev⟩ := h.form
  have OK := ackOK R n hR ao cp _ (by rw [← ev]; exact h.below A0)
  rw [hs] at OK
  subst ev
  have HH : Hid _ := And.intro OK (And.intro A0 (And.intro K0 (And.intro K1 (And.intro h hR))))
  clear OK h A0 K0 K1 hR
  obtain ⟨m, em⟩ : ∃ m, m = R.length := ⟨_, rfl⟩
  have EM : Hid _ := And.intro em True.intro
  rw [← em] at HH ⊢
  clear em
  go_enter Try.func8, Try.ntmps8
  go_wp2_with fail
  go_at_call 25
  refine HH.out.1.mono ?_
  rintro e w1 ⟨rfl, b1⟩
  have K1 := (b1.block w.heap.size (by simp; omega)).trans HH.out.2.2.1
  have J1 := (b1.block (w.heap.size + 1) (by simp)).trans HH.out.2.2.2.1
  have L1 : w.heap.size < w1.heap.size := (Array.getElem?_eq_some_iff.1 K1).1
  have M1 : w.heap.size + 1 < w1.heap.size := (Array.getElem?_eq_some_iff.1 J1).1
  have B1 := HH.out.2.1.trans (b1.mono HH.out.2.1.size)
  have z0 : w1.cell? ⟨w.heap.size, 0, none⟩ = some (.int .i64 0) := bk_cell K1 0
  have zf0 : w1.frozen? ⟨w.heap.size, 0, none⟩ = false := bk_free K1 0
  have z1 : w1.cell? ⟨w.heap.size, 1, none⟩ = some (.int .i64 0) := bk_cell K1 1
  have zf1 : w1.frozen? ⟨w.heap.size, 1, none⟩ = false := bk_free K1 1
  have z2 : w1.cell? ⟨w.heap.size, 2, none⟩ = some (.int .i64 0) := bk_cell K1 2
  have zf2 : w1.frozen? ⟨w.heap.size, 2, none⟩ = false := bk_free K1 2
  have z3 : w1.cell? ⟨w.heap.size, 3, none⟩ = some (.int .i64 0) := bk_cell K1 3
  have zf3 : w1.frozen? ⟨w.heap.size, 3, none⟩ = false := bk_free K1 3
  have z4 : w1.cell? ⟨w.heap.size, 4, none⟩ = some (.bool false) := bk_cell K1 4
  have zf4 : w1.frozen? ⟨w.heap.size, 4, none⟩ = false := bk_free K1 4
  have z5 : w1.cell? ⟨w.heap.size, 5, none⟩ = some (.slice none 0 0) := bk_cell K1 5
  have zf5 : w1.frozen? ⟨w.heap.size, 5, none⟩ = false := bk_free K1 5
  have z6 : w1.cell? ⟨w.heap.size, 6, none⟩ = some (.slice none 0 0) := bk_cell K1 6
  have zf6 : w1.frozen? ⟨w.heap.size, 6, none⟩ = false := bk_free K1 6
  have z7 : w1.cell? ⟨w.heap.size, 7, none⟩ = some (.slice none 0 0) := bk_cell K1 7
  have zf7 : w1.frozen? ⟨w.heap.size, 7, none⟩ = false := bk_free K1 7
  have H1 : Hid _ := And.intro B1 K1
  clear b1 K1 B1 J1
  go_wp2_with fail
  refine bodyPost_ret (v := .tuple #[.agg #[.int .i64 0, .int .i64 0, .int .i64 0, .int .i64 0, .bool false, .slice none 0 0, .slice none 0 0, .slice none 0 0], .int .i64 1]) ?_ rfl ?_
  · exact results_row_tmpA (t := 27) rfl _ _ w.heap.size _ (fr := (0, 0)) _ _ rfl rfl (sf8_heap H1.out.2) Try.underlying27 rfl infoFrm
  · exact ⟨_, rfl, fown_nil _ _, sf8_below H1.out.1 (Nat.le_refl _)⟩
set_option maxRecDepth 20000 in
set_option maxHeartbeats 4000000 in
theorem afI_ok (v : Value) (R : List (Int × Int)) (n : Int) (w : World) (h : RRow w v R) (hR : R.length ≤ 1048576) (hs : ackS R n = true) (h0 : 0 < R.length) :
    Calls Try.prog 8 #[v, .int .i64 n] w fun e w' => ∃ r, e = .returned (.tuple #[r, .int .i64 0]) ∧ FOwns w' w.heap.size r (ackF R n) ∧ Below w.heap.size w w' := by
  have A0 : Below w.heap.size w ((w.alloc (.cells #[.int .i64 0, .int .i64 0, .int .i64 0, .int .i64 0, .bool false, .slice none 0 0, .slice none 0 0, .slice none 0 0] 27)).alloc (.cells #[.int .i64 2, .int .i64 n, .int .i64 0, .int .i64 0, .bool false, .slice none 0 0, .slice none 0 0, v] 27)) := ((Below.refl _ _).alloc (Nat.le_refl _) _).alloc (by simp) _
  have K0 : ((w.alloc (.cells #[.int .i64 0, .int .i64 0, .int .i64 0, .int .i64 0, .bool false, .slice none 0 0, .slice none 0 0, .slice none 0 0] 27)).alloc (.cells #[.int .i64 2, .int .i64 n, .int .i64 0, .int .i64 0, .bool false, .slice none 0 0, .slice none 0 0, v] 27)).heap[w.heap.size]? = some (.cells #[.int .i64 0, .int .i64 0, .int .i64 0, .int .i64 0, .bool false, .slice none 0 0, .slice none 0 0, .slice none 0 0] 27 (0, 0)) := by
    rw [Below.heap_alloc _ _ _ (by simp)]; exact heap_alloc_new w _
  have K1 : ((w.alloc (.cells #[.int .i64 0, .int .i64 0, .int .i64 0, .int .i64 0, .bool false, .slice none 0 0, .slice none 0 0, .slice none 0 0] 27)).alloc (.cells #[.int .i64 2, .int .i64 n, .int .i64 0, .int .i64 0, .bool false, .slice none 0 0, .slice none 0 0, v] 27)).heap[w.heap.size + 1]? = some (.cells #[.int .i64 2, .int .i64 n, .int .i64 0, .int .i64 0, .bool false, .slice none 0 0, .slice none 0 0, v] 27 (0, 0)) := by
    have := heap_alloc_new (w.alloc (.cells #[.int .i64 0, .int .i64 0, .int .i64 0, .int .i64 0, .bool false, .slice none 0 0, .slice none 0 0, .slice none 0 0] 27)) (.cells #[.int .i64 2, .int .i64 n, .int .i64 0, .int .i64 0, .bool false, .slice none 0 0, .slice none 0 0, v] 27)
    simpa using this
  obtain ⟨ao, cp, ev⟩ := h.form
  have OK := ackOK R n hR ao cp _ (by rw [← ev]; exact h.below A0)
  rw [hs] at OK
  subst ev
  have HH : Hid _ := And.intro OK (And.intro A0 (And.intro K0 (And.intro K1 (And.intro h hR))))
  clear OK h A0 K0 K1 hR
  obtain ⟨m, em⟩ : ∃ m, m = R.length := ⟨_, rfl⟩
  have EM : Hid _ := And.intro em True.intro
  rw [← em] at HH ⊢
  clear em
  go_enter Try.func8, Try.ntmps8
  go_wp2_with fail
  go_at_call 25
  refine HH.out.1.mono ?_
  rintro e w1 ⟨rfl, b1⟩
  have K1 := (b1.block w.heap.size (by simp; omega)).trans HH.out.2.2.1
  have J1 := (b1.block (w.heap.size + 1) (by simp)).trans HH.out.2.2.2.1
  have L1 : w.heap.size < w1.heap.size := (Array.getElem?_eq_some_iff.1 K1).1
  have M1 : w.heap.size + 1 < w1.heap.size := (Array.getElem?_eq_some_iff.1 J1).1
  have B1 := HH.out.2.1.trans (b1.mono HH.out.2.1.size)
  obtain ⟨gb, off, cap, ev, _, _⟩ := HH.out.2.2.2.2.1.at' h0
  simp only [Value.slice.injEq] at ev
  obtain ⟨rfl, em2, rfl⟩ := ev
  have CL := cloneR gb off cp R w1 (by rw [← EM.out.1]; exact HH.out.2.2.2.2.1.below B1) (by rw [← EM.out.1]; exact HH.out.2.2.2.2.2)
  rw [← EM.out.1] at CL
  have H1 : Hid _ := And.intro B1 (And.intro K1 (And.intro J1 CL))
  clear b1 K1 B1 J1 CL em2
  go_wp2_with fail
  go_at_call 26
  refine H1.out.2.2.2.mono ?_
  rintro e w2 ⟨r, rfl, o2, b2⟩
  obtain ⟨ra, rc, hr2⟩ := o2.row.form
  subst hr2
  have K2 := (b2.block w.heap.size L1).trans H1.out.2.1
  have J2 := (b2.block (w.heap.size + 1) M1).trans H1.out.2.2.1
  have L2 : w.heap.size < w2.heap.size := (Array.getElem?_eq_some_iff.1 K2).1
  have M2 : w.heap.size + 1 < w2.heap.size := (Array.getElem?_eq_some_iff.1 J2).1
  have z0 : w2.cell? ⟨w.heap.size, 0, none⟩ = some (.int .i64 0) := bk_cell K2 0
  have zf0 : w2.frozen? ⟨w.heap.size, 0, none⟩ = false := bk_free K2 0
  have z1 : w2.cell? ⟨w.heap.size, 1, none⟩ = some (.int .i64 0) := bk_cell K2 1
  have zf1 : w2.frozen? ⟨w.heap.size, 1, none⟩ = false := bk_free K2 1
  have z2 : w2.cell? ⟨w.heap.size, 2, none⟩ = some (.int .i64 0) := bk_cell K2 2
  have zf2 : w2.frozen? ⟨w.heap.size, 2, none⟩ = false := bk_free K2 2
  have z3 : w2.cell? ⟨w.heap.size, 3, none⟩ = some (.int .i64 0) := bk_cell K2 3
  have zf3 : w2.frozen? ⟨w.heap.size, 3, none⟩ = false := bk_free K2 3
  have z4 : w2.cell? ⟨w.heap.size, 4, none⟩ = some (.bool false) := bk_cell K2 4
  have zf4 : w2.frozen? ⟨w.heap.size, 4, none⟩ = false := bk_free K2 4
  have z5 : w2.cell? ⟨w.heap.size, 5, none⟩ = some (.slice none 0 0) := bk_cell K2 5
  have zf5 : w2.frozen? ⟨w.heap.size, 5, none⟩ = false := bk_free K2 5
  have z6 : w2.cell? ⟨w.heap.size, 6, none⟩ = some (.slice none 0 0) := bk_cell K2 6
  have zf6 : w2.frozen? ⟨w.heap.size, 6, none⟩ = false := bk_free K2 6
  have z7 : w2.cell? ⟨w.heap.size, 7, none⟩ = some (.slice none 0 0) := bk_cell K2 7
  have zf7 : w2.frozen? ⟨w.heap.size, 7, none⟩ = false := bk_free K2 7
  have y0 : w2.cell? ⟨(w.heap.size + 1), 0, none⟩ = some (.int .i64 2) := bk_cell J2 0
  have yf0 : w2.frozen? ⟨(w.heap.size + 1), 0, none⟩ = false := bk_free J2 0
  have y1 : w2.cell? ⟨(w.heap.size + 1), 1, none⟩ = some (.int .i64 n) := bk_cell J2 1
  have yf1 : w2.frozen? ⟨(w.heap.size + 1), 1, none⟩ = false := bk_free J2 1
  have y2 : w2.cell? ⟨(w.heap.size + 1), 2, none⟩ = some (.int .i64 0) := bk_cell J2 2
  have yf2 : w2.frozen? ⟨(w.heap.size + 1), 2, none⟩ = false := bk_free J2 2
  have y3 : w2.cell? ⟨(w.heap.size + 1), 3, none⟩ = some (.int .i64 0) := bk_cell J2 3
  have yf3 : w2.frozen? ⟨(w.heap.size + 1), 3, none⟩ = false := bk_free J2 3
  have y4 : w2.cell? ⟨(w.heap.size + 1), 4, none⟩ = some (.bool false) := bk_cell J2 4
  have yf4 : w2.frozen? ⟨(w.heap.size + 1), 4, none⟩ = false := bk_free J2 4
  have y5 : w2.cell? ⟨(w.heap.size + 1), 5, none⟩ = some (.slice none 0 0) := bk_cell J2 5
  have yf5 : w2.frozen? ⟨(w.heap.size + 1), 5, none⟩ = false := bk_free J2 5
  have y6 : w2.cell? ⟨(w.heap.size + 1), 6, none⟩ = some (.slice none 0 0) := bk_cell J2 6
  have yf6 : w2.frozen? ⟨(w.heap.size + 1), 6, none⟩ = false := bk_free J2 6
  have y7 : w2.cell? ⟨(w.heap.size + 1), 7, none⟩ = some (.slice (some ⟨gb, off, none⟩) m cp) := bk_cell J2 7
  have yf7 : w2.frozen? ⟨(w.heap.size + 1), 7, none⟩ = false := bk_free J2 7
  have H2 : Hid _ := And.intro (H1.out.1.trans (b2.mono H1.out.1.size)) (And.intro K2 (And.intro J2 o2))
  clear b2 K2 J2 o2
  go_wp2_with fail
  refine bodyPost_ret (v := .tuple #[.agg #[.int .i64 2, .int .i64 n, .int .i64 0, .int .i64 0, .bool false, .slice none 0 0, .slice none 0 0, .slice ra R.length rc], .int .i64 0]) ?_ rfl ?_
  · refine results_row_tmpA (t := 27) rfl _ _ w.heap.size _ (fr := (0, 0)) _ _ rfl rfl (sf8_heap (c0 := .int .i64 0) (c1 := .int .i64 0) (c2 := .int .i64 0) (c3 := .int .i64 0) (c4 := .bool false) (c5 := .slice none 0 0) (c6 := .slice none 0 0) (c7 := .slice none 0 0) ?_) Try.underlying27 rfl infoFrm
    rw [Below.heap_setCell _ _ _ _ (by simp)]
    exact H2.out.2.1
  · have ro : ROwns w2 w1.heap.size (.slice ra R.length rc) R := H2.out.2.2.2
    exact ⟨_, rfl, (fown_ack (sf8_rowns (ROwns.cell (g := w.heap.size + 1) (i := 7) ro M1) L1)).mono (Nat.le_of_lt L1), sf8_below (H2.out.1.setCell (p := ⟨w.heap.size + 1, 7, none⟩) (by simp) _) (Nat.le_refl _)⟩
end Go.Proofs.Ytaodcahkkeobdaa
