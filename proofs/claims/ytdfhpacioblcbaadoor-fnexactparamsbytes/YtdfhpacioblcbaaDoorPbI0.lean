import Derived.Test.YtdfhpacioblcbaaDoorPbA
import Derived.Test.YtdfhpacioblcbaaDoorBlocks
import Derived.Test.YtdfhpacioblcbaaDoorParT
import Derived.Laws.EntriesVeiled
namespace Go.Proofs.YtdfhpacioblcbaaDoor
open Go.RowKit
set_option linter.unusedVariables false

set_option maxRecDepth 20000 in
set_option maxHeartbeats 1000000 in
theorem putN1 (base : Nat) (vo : Value) (xs : List Int) (n : Int) (g : Nat) (w : World) (ht : Tab w) (ho : w.ownsRow base 5 1 vo xs.length (xs.map (Value.int .u8))) (hb : base ≤ w.heap.size) (hx : xs.length ≤ 1000000) (h0 : 0 ≤ n) (h1 : n ≤ 4611686018427387903) (hc : w.cell? ⟨g, 0, none⟩ = some (.int .i64 n)) :
    Calls Tryd.prog 25 #[vo, .slice (some ⟨g, 0, none⟩) 1 1] w fun e w' => ∃ r, e = .returned r ∧ w'.ownsRow base 5 1 r (xs ++ putv n).length ((xs ++ putv n).map (Value.int .u8)) ∧ GrW w w' vo r := by
  have HH : Hid _ := And.intro ho (And.intro (implPutVar n w ht h0 h1) (And.intro hb (putv_le n h0 h1)))
  clear ho hb ht
  go_enter Tryd.func25, Tryd.ntmps25
  go_wp2
  refine wp_loop_rounds 2 ?_
  rw [rounds_succ]
  go_wp2_with (first
    | (go_at_call 43; refine HH.out.2.1.mono ?_; rintro e w1 ⟨r1, rfl, o1, b1⟩; have H1 : Hid _ := And.intro (row_of_owns o1) b1; clear o1 b1)
    | (at_builtin; refine wpList_append_loc rfl (.tmp 20) (.tmp 21) rfl base _ xs rfl (owns_below HH.out.1 H1.out.2) _ (putv n) rfl H1.out.1 (by have := HH.out.2.2.2; omega) (Nat.le_trans HH.out.2.2.1 H1.out.2.size) ?_; intro q2 w2 o2 g2; have H2 : Hid _ := And.intro o2 (GrW.after H1.out.2 g2); clear o2 g2))
  rw [rounds_succ]
  go_wp2
  go_ret
  exact ⟨_, rfl, H2.out.1, H2.out.2⟩
theorem Tab.al {w : World} (h : Tab w) (o : Obj) : Tab (w.alloc o) := h.below ((Below.refl _ _).alloc (Nat.le_refl _) o) h.lt
set_option maxRecDepth 20000 in
set_option maxHeartbeats 1000000 in
theorem putC1 (base : Nat) (vo vv : Value) (xs ys : List Int) (g : Nat) (w : World) (ht : Tab w) (ho : w.ownsRow base 5 1 vo xs.length (xs.map (Value.int .u8))) (hv : Row w .u8 vv ys) (ha : ys ≠ [] → ∀ k, vv.ownBlock = some k → vo.ownBlock ≠ some k) (hb : base ≤ w.heap.size) (hx : xs.length ≤ 100000) (hy : ys.length ≤ 100000) (hc : w.cell? ⟨g, 0, none⟩ = some vv) :
    Calls Tryd.prog 24 #[vo, .slice (some ⟨g, 0, none⟩) 1 1] w fun e w' => ∃ r, e = .returned r ∧ w'.ownsRow base 5 1 r (xs ++ (putv ys.length ++ ys)).length ((xs ++ (putv ys.length ++ ys)).map (Value.int .u8)) ∧ GrW w w' vo r := by
  obtain ⟨ao, cap, rfl⟩ := hv.form
  have al : Below w.heap.size w (w.alloc (.cells #[.int .i64 (ys.length : Int)] 3)) := (Below.refl _ _).alloc (Nat.le_refl _) _
  have C := putN1 base vo xs ys.length w.heap.size _ (ht.al _) (owns_below ho al) (Nat.le_trans hb al.size) (by omega) (by omega) (by omega) (laid1 w (.int .i64 (ys.length : Int)) 3)
  have HH : Hid _ := And.intro C (And.intro (hv.below al) (And.intro ha (And.intro hb (And.intro (putv_le ys.length (by omega) (by omega)) al))))
  obtain ⟨n, en⟩ : ∃ n, n = ys.length := ⟨_, rfl⟩
  have EN : Hid _ := And.intro en True.intro
  have hny : n ≤ 100000 := by omega
  rw [← en] at hc ⊢
  clear C hv ha hb ho en hy ht al
  go_enter Tryd.func24, Tryd.ntmps24
  go_wp2
  refine wp_loop_rounds 2 ?_
  rw [rounds_succ]
  go_wp2_with (first
    | (go_at_call 25; rw [EN.out.1]; refine HH.out.1.mono ?_; rintro e w1 ⟨r1, rfl, o1, g1⟩; have H1 : Hid _ := And.intro o1 (And.intro g1 (GrW.after HH.out.2.2.2.2.2 g1)); clear o1 g1)
    | (at_builtin; refine wpList_append_loc rfl (.tmp 17) (.tmp 18) rfl base _ (xs ++ putv ys.length) rfl H1.out.1 _ ys (by rw [← EN.out.1]; rfl) (HH.out.2.1.chg H1.out.2.1.chg (fun hx k h e => HH.out.2.2.1 hx k h e)) (by have := HH.out.2.2.2.2.1; have := EN.out.1; rw [List.length_append]; omega) (Nat.le_trans HH.out.2.2.2.1 H1.out.2.2.chg.size) ?_; intro q2 w2 o2 g2; have H2 : Hid _ := And.intro o2 (GrW.trans H1.out.2.2 g2); clear o2 g2))
  rw [rounds_succ]
  go_wp2
  go_ret
  refine ⟨_, rfl, ?_, H2.out.2⟩
  have := H2.out.1
  rw [List.append_assoc, ← EN.out.1] at this
  exact this
set_option maxRecDepth 20000 in
theorem numVal (b g off : Nat) (x : Int) (w : World) (ht : Tab w) (x0 : 0 ≤ x) (x1 : x ≤ 4611686018427387903) (c0 : w.cell? ⟨b, 0, none⟩ = some (.pointer (some ⟨g, off, none⟩))) (cx : w.cell? ⟨g, off, none⟩ = some (.int .i64 x)) :
    Calls Tryd.prog 58 #[.pointer (some ⟨b, 0, none⟩)] w fun e w' => ∃ r, e = .returned r ∧ w'.ownsRow w.heap.size 5 1 r (putv x).length ((putv x).map (Value.int .u8)) ∧ Below w.heap.size w w' := by
  have al : Below w.heap.size w (w.alloc (.cells #[.int .i64 x] 3)) := (Below.refl _ _).alloc (Nat.le_refl _) _
  have oz : (w.alloc (.cells #[.int .i64 x] 3)).ownsRow w.heap.size 5 1 (.slice none 0 0) ([] : List Int).length (([] : List Int).map (Value.int .u8)) := World.ownsRow_nil _ _ _ _
  have C := putN1 w.heap.size (.slice none 0 0) [] x w.heap.size _ (ht.al _) oz al.size (by simp) x0 x1 (laid1 w (.int .i64 x) 3)
  have HH : Hid _ := And.intro C (And.intro al oz)
  clear C al oz ht
  go_enter Tryd.func58, Tryd.ntmps58
  go_wp2_with (go_at_call 25; refine HH.out.1.mono ?_; rintro e w1 ⟨r1, rfl, o1, g1⟩; rw [List.nil_append] at o1; have H1 : Hid _ := And.intro o1 (HH.out.2.1.trans (g1.below HH.out.2.2 HH.out.2.1.size)); clear o1 g1)
  go_ret
  exact ⟨_, rfl, H1.out.1, H1.out.2⟩
theorem lstVal (b g off : Nat) (ao : Option Addr) (n cap : Nat) (w : World) (c0 : w.cell? ⟨b, 0, none⟩ = some (.pointer (some ⟨g, off, none⟩))) (cx : w.cell? ⟨g, off, none⟩ = some (.slice ao n cap)) :
    Calls Tryd.prog 80 #[.pointer (some ⟨b, 0, none⟩)] w fun e w' => e = .returned (.slice ao n cap) ∧ w' = w := by
  go_enter Tryd.func80, Tryd.ntmps80
  go_wp2
  go_ret
  exact ⟨rfl, rfl⟩
theorem flgVal (w : World) : Calls Tryd.prog 65 #[] w fun e w' => e = .returned (.slice none 0 0) ∧ w' = w := by
  go_enter Tryd.func65, Tryd.ntmps65
  go_wp2
  go_ret
  exact ⟨rfl, rfl⟩
theorem orgTold (c : Nat) (s : Bool) (w : World) (hc : w.cell? ⟨c, 0, none⟩ = some (.bool s)) : Calls Tryd.prog 55 #[.pointer (some ⟨c, 0, none⟩)] w fun e w' => e = .returned (.bool s) ∧ w' = w := by
  go_enter Tryd.func55, Tryd.ntmps55
  go_wp2
  go_ret
  exact ⟨rfl, rfl⟩
theorem tokTold (c g off : Nat) (ao : Option Addr) (n cap : Nat) (w : World) (hn : n ≤ 9223372036854775807) (c0 : w.cell? ⟨c, 0, none⟩ = some (.pointer (some ⟨g, off, none⟩))) (cx : w.cell? ⟨g, off, none⟩ = some (.slice ao n cap)) : Calls Tryd.prog 62 #[.pointer (some ⟨c, 0, none⟩)] w fun e w' => e = .returned (.bool (decide (0 < n))) ∧ w' = w := by
  go_enter Tryd.func62, Tryd.ntmps62
  go_wp2
  go_ret
  exact ⟨by first | rfl | (simp; done) | (simp; omega), rfl⟩
theorem flgTold (b g off : Nat) (m : Bool) (w : World) (c0 : w.cell? ⟨b, 0, none⟩ = some (.pointer (some ⟨g, off, none⟩))) (cx : w.cell? ⟨g, off, none⟩ = some (.bool m)) : Calls Tryd.prog 64 #[.pointer (some ⟨b, 0, none⟩)] w fun e w' => e = .returned (.bool m) ∧ w' = w := by
  go_enter Tryd.func64, Tryd.ntmps64
  go_wp2
  go_ret
  exact ⟨rfl, rfl⟩
end Go.Proofs.YtdfhpacioblcbaaDoor
