import Derived.Test.YtbbiinbjgognjaaDoorPkP
import Derived.Test.YtbbiinbjgognjaaDoorSrT
namespace Go.Proofs.YtbbiinbjgognjaaDoor
open Go.RowKit
set_option linter.unusedVariables false

/-- The three variables that the readers read. -/
structure T3 (w : World) : Prop where
  tab : Tab w
  tabL : TabL w
  err : errT w
theorem T3.lt {w : World} (h : T3 w) : 2 < w.heap.size := h.tab.lt
theorem T3.below {w w' : World} {B : Nat} (h : T3 w) (hb : Below B w w') (h0 : 2 < B) : T3 w' := ⟨h.tab.below hb h0, h.tabL.below hb (by omega), h.err.below hb (by omega)⟩
def rvL (xs : List Int) : List Int := match pk xs 0 with | .ok K => if K.f = 5 then K.vers else [] | .error _ => []
def rvC (xs : List Int) : Int := match pk xs 0 with | .ok K => if K.f = 5 then 0 else 3 | .error c => c
theorem row_lies {w : World} {v : Value} {xs : List Int} (h : Row w .u8 v xs) : ∃ ao cap, v = .slice ao xs.length cap ∧ (xs.length = 0 ∨ ∃ b off, ao = some ⟨b, off, none⟩ ∧ Lies w b off xs.length cap xs) := by
  rcases h with ⟨rfl, ao, cap, rfl⟩ | ⟨b, off, cap, rfl, hb, hc, hcell⟩
  · exact ⟨ao, cap, rfl, Or.inl rfl⟩
  · exact ⟨_, cap, rfl, Or.inr ⟨b, off, rfl, ⟨rfl, hb, hc.1, hc.2, hcell⟩⟩⟩
set_option maxRecDepth 20000 in
set_option maxHeartbeats 1000000 in
theorem implRV_bad (ao : Option Addr) (n cap : Nat) (c : Int) (w : World) (he : errT w)
    (hp : Calls Tryd.prog 28 #[.slice ao n cap, .int .i64 0] w fun e w' => Below w.heap.size w w' ∧ e = .returned (.tuple #[.agg #[.int .i64 0, .int .i64 0, .slice none 0 0, .slice none 0 0, .slice none 0 0, .int .i64 0, .int .i64 0, .int .i64 0, .slice none 0 0, .int .i64 0, .int .i64 0], faultV c])) :
    Calls Tryd.prog 23 #[.slice ao n cap] w fun e w' => ∃ r, e = .returned (.tuple #[r, .int .i64 c]) ∧ w'.ownsRow w.heap.size 3 1 r 0 (([] : List Int).map (Value.int .i64)) ∧ Below w.heap.size w w' := by
  have HE : Hid _ := And.intro he True.intro
  clear he
  go_enter Tryd.func23, Tryd.ntmps23
  go_wp2_with fail
  go_at_call 28
  refine hp.mono ?_
  rintro e w1 ⟨b1, rfl⟩
  have ba : ∀ o, Below w.heap.size w (w1.alloc o) := fun o => b1.alloc b1.size o
  have hcd : ∀ o, _ := fun o => codeC_fault c (w1.alloc o) (HE.out.1.below (ba o) HE.out.1.lt)
  have HB : Hid _ := And.intro ba True.intro
  clear b1 ba
  unfold faultV at hcd ⊢
  go_wp2_with fail
  go_at_call 29
  refine (hcd _).mono ?_
  rintro e w2 ⟨rfl, b2⟩
  go_wp2_with fail
  go_ret2
  exact ⟨_, rfl, World.ownsRow_nil _ _ _ _, (HB.out.1 _).trans (b2.mono (HB.out.1 _).size)⟩
set_option maxRecDepth 20000 in
set_option maxHeartbeats 1000000 in
theorem implRV_ok (ao : Option Addr) (n cap : Nat) (K : PK) (w : World)
    (hp : Calls Tryd.prog 28 #[.slice ao n cap, .int .i64 0] w fun e w' => Below w.heap.size w w' ∧ ∃ vd vs vt vv, e = .returned (.tuple #[.agg (pkA K vd vs vt vv), .nilIface]) ∧ HOwn w' w.heap.size vd vs vt ⟨K.f, K.v, K.d, K.s, K.t, 0, 0, 0⟩ ∧ w'.ownsRow w.heap.size 3 1 vv K.vers.length (K.vers.map (Value.int .i64))) :
    Calls Tryd.prog 23 #[.slice ao n cap] w fun e w' => ∃ r, e = .returned (.tuple #[r, .int .i64 (if K.f = 5 then 0 else 3)]) ∧ w'.ownsRow w.heap.size 3 1 r (if K.f = 5 then K.vers else []).length ((if K.f = 5 then K.vers else []).map (Value.int .i64)) ∧ Below w.heap.size w w' := by
  by_cases h5 : K.f = 5
  · rw [if_pos h5, if_pos h5]
    have d5 : (K.f != 5) = false := by simp [h5]
    clear h5
    go_enter Tryd.func23, Tryd.ntmps23
    go_wp2_with fail
    go_at_call 28
    refine hp.mono ?_
    rintro e w1 ⟨b1, vd, vs, vt, vv, rfl, q2, q3⟩
    obtain ⟨da, dp, ed⟩ := (row_of_owns q2.o0).form
    obtain ⟨sa, sp, es⟩ := (row_of_owns q2.o1).form
    obtain ⟨ta, tp, et⟩ := (row_of_owns q2.o2).form
    obtain ⟨va, vp, ev⟩ := (row_of_owns (k := .i64) q3).form
    have ba : ∀ o, Below w.heap.size w (w1.alloc o) := fun o => b1.alloc b1.size o
    have oa : ∀ o, (w1.alloc o).ownsRow w.heap.size 3 1 vv K.vers.length (K.vers.map (Value.int .i64)) := fun o => q3.alloc o
    subst ed es et ev
    have HB : Hid _ := And.intro ba oa
    clear b1 ba oa q2 q3 hp
    unfold pkA
    go_wp2_with fail
    go_ret2
    exact ⟨_, rfl, HB.out.2 _, HB.out.1 _⟩
  · rw [if_neg h5, if_neg h5]
    have d5 : (K.f != 5) = true := by simp [h5]
    clear h5
    go_enter Tryd.func23, Tryd.ntmps23
    go_wp2_with fail
    go_at_call 28
    refine hp.mono ?_
    rintro e w1 ⟨b1, vd, vs, vt, vv, rfl, q2, q3⟩
    obtain ⟨da, dp, ed⟩ := (row_of_owns q2.o0).form
    obtain ⟨sa, sp, es⟩ := (row_of_owns q2.o1).form
    obtain ⟨ta, tp, et⟩ := (row_of_owns q2.o2).form
    obtain ⟨va, vp, ev⟩ := (row_of_owns (k := .i64) q3).form
    have ba : ∀ o, Below w.heap.size w (w1.alloc o) := fun o => b1.alloc b1.size o
    subst ed es et ev
    have HB : Hid _ := And.intro ba True.intro
    clear b1 ba q2 q3 hp
    unfold pkA
    go_wp2_with fail
    go_ret2
    exact ⟨_, rfl, World.ownsRow_nil _ _ _ _, HB.out.1 _⟩
theorem implRV (v : Value) (xs : List Int) (w : World) (ht : T3 w) (hrow : Row w .u8 v xs) (hB : Bytes xs) (hm : xs.length ≤ 9223372036854775807) :
    Calls Tryd.prog 23 #[v] w fun e w' => ∃ r, e = .returned (.tuple #[r, .int .i64 (rvC xs)]) ∧ w'.ownsRow w.heap.size 3 1 r (rvL xs).length ((rvL xs).map (Value.int .i64)) ∧ Below w.heap.size w w' := by
  obtain ⟨ao, cap, rfl, hlie⟩ := row_lies hrow
  cases hp : pk xs 0 with
  | error c =>
    have e1 : rvC xs = c := by unfold rvC; rw [hp]
    have e2 : rvL xs = [] := by unfold rvL; rw [hp]
    rw [e1, e2]
    exact implRV_bad ao _ cap c w ht.err (peek_bad ao _ cap 0 c xs w ht.tab ht.tabL hlie rfl hB hm hp)
  | ok K =>
    have e1 : rvC xs = if K.f = 5 then 0 else 3 := by unfold rvC; rw [hp]
    have e2 : rvL xs = if K.f = 5 then K.vers else [] := by unfold rvL; rw [hp]
    rw [e1, e2]
    exact implRV_ok ao _ cap K w (peek_ok ao _ cap 0 K xs w ht.tab ht.tabL hlie rfl hB hm hp)
end Go.Proofs.YtbbiinbjgognjaaDoor
