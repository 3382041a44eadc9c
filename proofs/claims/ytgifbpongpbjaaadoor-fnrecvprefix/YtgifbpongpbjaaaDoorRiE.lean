import Derived.Test.YtgifbpongpbjaaaDoorRiD
namespace Go.Proofs.YtgifbpongpbjaaaDoor
open Go.RowKit
set_option linter.unusedVariables false

set_option maxRecDepth 20000 in
set_option maxHeartbeats 1000000 in
theorem newR (win : Nat) (w : World) (hw : 1 ≤ win) (hw2 : win ≤ 16384) :
    Calls Tryd.prog 9 #[.int .i64 (win : Int)] w fun e w' => e = .returned (.pointer (some ⟨w.heap.size + 1, 0, none⟩)) ∧ Rep w' (w.heap.size + 1) w.heap.size win ⟨0, win, 0, false, 0, []⟩ ∧ Below w.heap.size w w' := by
  go_enter Tryd.func9, Tryd.ntmps9
  go_wp2_with (at_make; refine wpList_makeR rfl _ _ rfl win (win : Int) rfl rfl rfl (by omega) ?_)
  go_ret
  refine ⟨rfl, ⟨List.replicate win (false, 0), ?_, ?_, by simp, fun p hp hp2 => ?_⟩, ((Below.refl _ _).alloc (Nat.le_refl _) _).alloc (by simp) _⟩
  · exact (bk_new2 w _ _).2
  · exact (bk_new2 w _ _).1
  · rw [g_rep, g_out _ _ (by simp)]
    exact ⟨rfl, fun _ => rfl⟩
/-- What RecvRun answers. -/
def rrY (win : Int) (R : List SRecvOp) : List SRecvObs := if 400 < R.length ∨ win < 1 ∨ 16384 < win then [] else (mrun win.toNat R R.length).2
def rrC (win : Int) (R : List SRecvOp) : Int := if 400 < R.length then 4 else if win < 1 ∨ 16384 < win then 1 else 0
theorem BOwns.nilB {α : Type} [Inhabited α] (T : TypeId) (K : Nat) (c : α → Value → List Value) (d : α → List Int) (w : World) (base : Nat) : BOwns T K c d w base (.slice none 0 0) [] :=
  ⟨fun _ => .slice none 0 0, ⟨[], World.ownsRow_nil _ _ _ _, fun j hj => by simp [zl] at hj⟩, fun j hj => by simp at hj, fun i j _ hj => by simp at hj⟩
set_option maxRecDepth 20000 in
set_option maxHeartbeats 1000000 in
theorem implRR (win : Int) (v : Value) (R : List SRecvOp) (w : World) (ht : TabF w) (h0 : 0 < w.heap.size) (row : BRow 5 SRecvOp.c SRecvOp.d w v R) (hl : R.length ≤ 140737488355328)
    (hd : ∀ j, j < R.length → (R.getD j default).d.length ≤ 140737488355328) (hof : ∀ j, j < R.length → (R.getD j default).f1 ≤ 9223372036854775807) :
    Calls Tryd.prog 6 #[.int .i64 win, v] w fun e w' => ∃ r, e = .returned (.tuple #[r, .int .i64 (rrC win R)]) ∧ BOwns 33 5 SRecvObs.c SRecvObs.d w' w.heap.size r (rrY win R) ∧ Below w.heap.size w w' := by
  obtain ⟨ao, cp, ev⟩ := row.form
  by_cases a1 : 400 < R.length
  · have e1 : rrC win R = 4 := by unfold rrC; rw [if_pos a1]
    have e2 : rrY win R = [] := by unfold rrY; rw [if_pos (Or.inl a1)]
    rw [e1, e2, ev]
    have a1' : (400 : Int) < (R.length : Int) := by omega
    generalize R.length = n at *
    clear row hd hof
    go_enter Tryd.func6, Tryd.ntmps6
    go_wp2
    go_ret2
    exact ⟨_, rfl, BOwns.nilB _ _ _ _ _ _, Below.refl _ _⟩
  by_cases a2 : win < 1
  · have e1 : rrC win R = 1 := by unfold rrC; rw [if_neg a1, if_pos (Or.inl a2)]
    have e2 : rrY win R = [] := by unfold rrY; rw [if_pos (Or.inr (Or.inl a2))]
    rw [e1, e2, ev]
    have a1' : ¬ (400 : Int) < (R.length : Int) := by omega
    generalize R.length = n at *
    clear row hd hof
    go_enter Tryd.func6, Tryd.ntmps6
    go_wp2
    go_ret2
    exact ⟨_, rfl, BOwns.nilB _ _ _ _ _ _, Below.refl _ _⟩
  by_cases a3 : 16384 < win
  · have e1 : rrC win R = 1 := by unfold rrC; rw [if_neg a1, if_pos (Or.inr a3)]
    have e2 : rrY win R = [] := by unfold rrY; rw [if_pos (Or.inr (Or.inr a3))]
    rw [e1, e2, ev]
    have a1' : ¬ (400 : Int) < (R.length : Int) := by omega
    generalize R.length = n at *
    clear row hd hof
    go_enter Tryd.func6, Tryd.ntmps6
    go_wp2
    go_ret2
    exact ⟨_, rfl, BOwns.nilB _ _ _ _ _ _, Below.refl _ _⟩
  obtain ⟨k, rfl⟩ : ∃ k : Nat, win = (k : Int) := ⟨win.toNat, by omega⟩
  have e1 : rrC (k : Int) R = 0 := by unfold rrC; rw [if_neg a1, if_neg (by omega)]
  have e2 : rrY (k : Int) R = (mrun k R R.length).2 := by unfold rrY; rw [if_neg (by omega)]; rfl
  rw [e1, e2]
  have C := newR k w (by omega) (by omega)
  have C2 : ∀ w1 : World, Rep w1 (w.heap.size + 1) w.heap.size k ⟨0, k, 0, false, 0, []⟩ → Below w.heap.size w w1 → Calls Tryd.prog 8 #[v, .func (.func 10) #[.pointer (some ⟨w.heap.size + 1, 0, none⟩)] #[]] w1 fun e w' => ∃ r, e = .returned r ∧ BOwns 33 5 SRecvObs.c SRecvObs.d w' w.heap.size r (mrun k R R.length).2 ∧ Below w.heap.size w w' := fun w1 hr hb =>
    runAllR (w.heap.size + 1) w.heap.size k v R w w1 hb (by omega) (Nat.le_refl _) row (by omega) hd hof ⟨ht.below hb h0, Nat.lt_of_lt_of_le h0 hb.size, fun e => by rcases e with e | e <;> omega, by omega, by omega, by omega, by omega, mrun_inv (by omega) (by omega) R 0 (by omega)⟩ hr h0
  have a1' : ¬ (400 : Int) < (R.length : Int) := by omega
  have HH : Hid _ := And.intro C C2
  rw [ev] at HH ⊢
  generalize (mrun k R R.length).2 = Y at *
  generalize R.length = n at *
  clear row hd hof C C2 e1 e2 ev ht h0 hl
  go_enter Tryd.func6, Tryd.ntmps6
  go_wp2_with (first | (go_at_call 9; refine HH.out.1.mono ?_; rintro e w1 ⟨rfl, r1, b1⟩) | (go_at_call 8; refine (HH.out.2 _ r1 b1).mono ?_; rintro e w2 ⟨r, rfl, o2, b2⟩))
  go_ret2
  exact ⟨_, rfl, o2, b2⟩
end Go.Proofs.YtgifbpongpbjaaaDoor
