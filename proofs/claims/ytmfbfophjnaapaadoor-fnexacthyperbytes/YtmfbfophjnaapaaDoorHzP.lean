import Derived.Test.YtmfbfophjnaapaaDoorPbA
import Derived.Test.YtmfbfophjnaapaaDoorBlocks
namespace Go.Proofs.YtmfbfophjnaapaaDoor
open Go.RowKit
set_option linter.unusedVariables false

theorem laid1h (w : World) (v : Value) (t : TypeId) : (w.alloc (.cells #[v] t)).cell? ⟨w.heap.size, 0, none⟩ = some v := bk_cell (heap_alloc_new w (.cells #[v] t)) 0

set_option maxRecDepth 20000 in
set_option maxHeartbeats 1000000 in
theorem putN1h (base : Nat) (vo : Value) (xs : List Int) (n : Int) (g : Nat) (w : World) (ht : Tab w) (ho : w.ownsRow base 5 1 vo xs.length (xs.map (Value.int .u8))) (hb : base ≤ w.heap.size) (hx : xs.length ≤ 1000000) (h0 : 0 ≤ n) (h1 : n ≤ 4611686018427387903) (hc : w.cell? ⟨g, 0, none⟩ = some (.int .i64 n)) :
    Calls Tryd.prog 23 #[vo, .slice (some ⟨g, 0, none⟩) 1 1] w fun e w' => ∃ r, e = .returned r ∧ w'.ownsRow base 5 1 r (xs ++ putv n).length ((xs ++ putv n).map (Value.int .u8)) ∧ GrW w w' vo r := by
  have HH : Hid _ := And.intro ho (And.intro (implPutVar n w ht h0 h1) (And.intro hb (putv_le n h0 h1)))
  clear ho hb ht
  go_enter Tryd.func23, Tryd.ntmps23
  go_wp2
  refine wp_loop_rounds 2 ?_
  rw [rounds_succ]
  go_wp2_with (first
    | (go_at_call 34; refine HH.out.2.1.mono ?_; rintro e w1 ⟨r1, rfl, o1, b1⟩; have H1 : Hid _ := And.intro (row_of_owns o1) b1; clear o1 b1)
    | (at_builtin; refine wpList_append_loc rfl (.tmp 20) (.tmp 21) rfl base _ xs rfl (owns_below HH.out.1 H1.out.2) _ (putv n) rfl H1.out.1 (by have := HH.out.2.2.2; omega) (Nat.le_trans HH.out.2.2.1 H1.out.2.size) ?_; intro q2 w2 o2 g2; have H2 : Hid _ := And.intro o2 (GrW.after H1.out.2 g2); clear o2 g2))
  rw [rounds_succ]
  go_wp2
  go_ret
  exact ⟨_, rfl, H2.out.1, H2.out.2⟩
theorem Tab.alh {w : World} (h : Tab w) (o : Obj) : Tab (w.alloc o) := h.below ((Below.refl _ _).alloc (Nat.le_refl _) o) h.lt
set_option maxRecDepth 20000 in
set_option maxHeartbeats 1000000 in
theorem putC1h (base : Nat) (vo vv : Value) (xs ys : List Int) (g : Nat) (w : World) (ht : Tab w) (ho : w.ownsRow base 5 1 vo xs.length (xs.map (Value.int .u8))) (hv : Row w .u8 vv ys) (ha : ys ≠ [] → ∀ k, vv.ownBlock = some k → vo.ownBlock ≠ some k) (hb : base ≤ w.heap.size) (hx : xs.length ≤ 100000) (hy : ys.length ≤ 100000) (hc : w.cell? ⟨g, 0, none⟩ = some vv) :
    Calls Tryd.prog 22 #[vo, .slice (some ⟨g, 0, none⟩) 1 1] w fun e w' => ∃ r, e = .returned r ∧ w'.ownsRow base 5 1 r (xs ++ (putv ys.length ++ ys)).length ((xs ++ (putv ys.length ++ ys)).map (Value.int .u8)) ∧ GrW w w' vo r := by
  obtain ⟨ao, cap, rfl⟩ := hv.form
  have al : Below w.heap.size w (w.alloc (.cells #[.int .i64 (ys.length : Int)] 3)) := (Below.refl _ _).alloc (Nat.le_refl _) _
  have C := putN1h base vo xs ys.length w.heap.size _ (ht.alh _) (owns_below ho al) (Nat.le_trans hb al.size) (by omega) (by omega) (by omega) (laid1h w (.int .i64 (ys.length : Int)) 3)
  have HH : Hid _ := And.intro C (And.intro (hv.below al) (And.intro ha (And.intro hb (And.intro (putv_le ys.length (by omega) (by omega)) al))))
  obtain ⟨n, en⟩ : ∃ n, n = ys.length := ⟨_, rfl⟩
  have EN : Hid _ := And.intro en True.intro
  have hny : n ≤ 100000 := by omega
  rw [← en] at hc ⊢
  clear C hv ha hb ho en hy ht al
  go_enter Tryd.func22, Tryd.ntmps22
  go_wp2
  refine wp_loop_rounds 2 ?_
  rw [rounds_succ]
  go_wp2_with (first
    | (go_at_call 23; rw [EN.out.1]; refine HH.out.1.mono ?_; rintro e w1 ⟨r1, rfl, o1, g1⟩; have H1 : Hid _ := And.intro o1 (And.intro g1 (GrW.after HH.out.2.2.2.2.2 g1)); clear o1 g1)
    | (at_builtin; refine wpList_append_loc rfl (.tmp 17) (.tmp 18) rfl base _ (xs ++ putv ys.length) rfl H1.out.1 _ ys (by rw [← EN.out.1]; rfl) (HH.out.2.1.chg H1.out.2.1.chg (fun hx k h e => HH.out.2.2.1 hx k h e)) (by have := HH.out.2.2.2.2.1; have := EN.out.1; rw [List.length_append]; omega) (Nat.le_trans HH.out.2.2.2.1 H1.out.2.2.chg.size) ?_; intro q2 w2 o2 g2; have H2 : Hid _ := And.intro o2 (GrW.trans H1.out.2.2 g2); clear o2 g2))
  rw [rounds_succ]
  go_wp2
  go_ret
  refine ⟨_, rfl, ?_, H2.out.2⟩
  have := H2.out.1
  rw [List.append_assoc, ← EN.out.1] at this
  exact this
theorem GrW.cellh {w w' : World} {v v' : Value} (g : GrW w w' v v') {q i : Nat} (hq : q < w.heap.size) (hv : v.ownBlock ≠ some q) : w'.cell? ⟨q, i, none⟩ = w.cell? ⟨q, i, none⟩ := by
  have := g.chg.block q hq hv
  simp only [World.cell?, this]
set_option maxRecDepth 20000 in
set_option maxHeartbeats 1000000 in
theorem putN2h (base : Nat) (vo : Value) (xs : List Int) (n m : Int) (g : Nat) (w : World) (ht : Tab w) (ho : w.ownsRow base 5 1 vo xs.length (xs.map (Value.int .u8))) (hb : base ≤ w.heap.size) (htb : ∀ u, Below base w u → Tab u) (hx : xs.length ≤ 1000000) (h0 : 0 ≤ n) (h1 : n ≤ 4611686018427387903) (m0 : 0 ≤ m) (m1 : m ≤ 4611686018427387903) (hgl : g < w.heap.size) (hgo : vo.ownBlock ≠ some g) (hc : w.cell? ⟨g, 0, none⟩ = some (.int .i64 n)) (hc1 : w.cell? ⟨g, 1, none⟩ = some (.int .i64 m)) :
    Calls Tryd.prog 23 #[vo, .slice (some ⟨g, 0, none⟩) 2 2] w fun e w' => ∃ r, e = .returned r ∧ w'.ownsRow base 5 1 r ((xs ++ putv n) ++ putv m).length (((xs ++ putv n) ++ putv m).map (Value.int .u8)) ∧ GrW w w' vo r := by
  have HH : Hid _ := And.intro ho (And.intro (implPutVar n w ht h0 h1) (And.intro hb (And.intro (putv_le n h0 h1) (putv_le m m0 m1))))
  have HG : Hid _ := And.intro hgl (And.intro hgo (And.intro hc1 (And.intro htb (And.intro m0 m1))))
  clear ho hb ht htb hgo hc1
  go_enter Tryd.func23, Tryd.ntmps23
  go_wp2
  refine wp_loop_rounds 3 ?_
  rw [rounds_succ]
  go_wp2_with (first
    | (go_at_call 34; refine HH.out.2.1.mono ?_; rintro e w1 ⟨r1, rfl, o1, b1⟩; have H1 : Hid _ := And.intro (row_of_owns o1) b1; clear o1 b1)
    | (at_builtin; refine wpList_append_loc rfl (.tmp 20) (.tmp 21) rfl base _ xs rfl (owns_below HH.out.1 H1.out.2) _ (putv n) rfl H1.out.1 (by have := HH.out.2.2.2.1; omega) (Nat.le_trans HH.out.2.2.1 H1.out.2.size) ?_; intro q2 w2 o2 g2; have H2 : Hid _ := And.intro o2 (GrW.after H1.out.2 g2); clear o2 g2))
  have d1 : w2.cell? ⟨g, 1, none⟩ = some (.int .i64 m) := (H2.out.2.cellh HG.out.1 HG.out.2.1).trans HG.out.2.2.1
  have HT : Hid (Tab w2) := HG.out.2.2.2.1 w2 (H2.out.2.below HH.out.1 HH.out.2.2.1)
  have C2 : Hid _ := And.intro (implPutVar m w2 HT.out HG.out.2.2.2.2.1 HG.out.2.2.2.2.2) True.intro
  have HS : Hid (base ≤ w2.heap.size) := Nat.le_trans HH.out.2.2.1 H2.out.2.chg.size
  rw [rounds_succ]
  go_wp2_with (first
    | (go_at_call 34; refine C2.out.1.mono ?_; rintro e w3 ⟨r3, rfl, o3, b3⟩; have H3 : Hid _ := And.intro (row_of_owns o3) b3; clear o3 b3)
    | (at_builtin; refine wpList_append_loc rfl (.tmp 20) (.tmp 21) rfl base _ (xs ++ putv n) rfl (owns_below H2.out.1 H3.out.2) _ (putv m) rfl H3.out.1 (by have := HH.out.2.2.2.1; have := HH.out.2.2.2.2; rw [List.length_append]; omega) (Nat.le_trans HS.out H3.out.2.size) ?_; intro q4 w4 o4 g4; have H4 : Hid _ := And.intro o4 (H2.out.2.trans (GrW.after H3.out.2 g4)); clear o4 g4))
  rw [rounds_succ]
  go_wp2
  go_ret
  exact ⟨_, rfl, H4.out.1, H4.out.2⟩
end Go.Proofs.YtmfbfophjnaapaaDoor
