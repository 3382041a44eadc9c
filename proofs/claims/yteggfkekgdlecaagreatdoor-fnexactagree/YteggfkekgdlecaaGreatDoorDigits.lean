import Derived.Test.YteggfkekgdlecaaGreatDoorMem
namespace Go.Proofs.YteggfkekgdlecaaGreatDoor
open Go.RowKit
set_option linter.unusedVariables false

theorem infoU8 : (Tryz.prog.info? 5).map (fun i => (i.zero, i.size, i.bytes)) = some (some (.int .u8 0), 1, 1) := by kernel_rfl

/-- The n lowest bytes of v, the highest first. -/
def be (v : Int) : Nat → List Int
  | 0 => []
  | n + 1 => be (v / 256) n ++ [v % 256]

theorem be_length (v : Int) (n : Nat) : (be v n).length = n := by
  induction n generalizing v with
  | zero => rfl
  | succ n ih => simp [be, ih]

theorem digits_nil (v : Int) (w : World) :
    Calls Tryz.prog 46 #[.int .i64 v, .int .i64 0] w fun e w' => ∃ r, e = .returned r ∧ w'.ownsRow w.heap.size 5 1 r 0 ([].map (Value.int .u8)) ∧ Below w.heap.size w w' := by
  go_enter Tryz.func46, Tryz.ntmps46
  go_wp2
  go_ret
  refine ⟨_, rfl, ?_, (Below.refl _ _).alloc (Nat.le_refl _) _⟩
  exact World.ownsRow_lit w #[] 0 (Nat.le_refl _) (by decide) rfl

set_option maxHeartbeats 400000 in
theorem digits (n : Nat) : ∀ (v : Int) (w : World), 0 ≤ v → v ≤ 9223372036854775807 → n ≤ 8 →
    Calls Tryz.prog 46 #[.int .i64 v, .int .i64 n] w fun e w' => ∃ r, e = .returned r ∧ w'.ownsRow w.heap.size 5 1 r n ((be v n).map (Value.int .u8)) ∧ Below w.heap.size w w' := by
  induction n with
  | zero => intro v w _ _ _; exact digits_nil v w
  | succ n ih =>
    intro v w h0 h1 hn
    obtain ⟨i0, hi, hz0, hz1, hz2⟩ := info_parts infoU8
    have hne : (((n : Int) + 1) == 0) = false := by simp; omega
    have IH : ∀ w : World, Calls Tryz.prog 46 #[.int .i64 (v / 256), .int .i64 n] w fun e w' => ∃ r, e = .returned r ∧ w'.ownsRow w.heap.size 5 1 r n ((be (v / 256) n).map (Value.int .u8)) ∧ Below w.heap.size w w' :=
      fun w => ih (v / 256) w (by omega) (by omega) (by omega)
    clear ih
    have e1 : (((n + 1 : Nat) : Int)) = (n : Int) + 1 := by omega
    rw [e1]
    clear e1
    go_enter Tryz.func46, Tryz.ntmps46
    go_wp2_with (first
      | (go_at_call 46; refine (IH _).mono ?_; rintro e w1 ⟨r, rfl, hown, hb⟩)
      | (at_builtin; refine wpList_append_own _ rfl _ _ 22 rfl w.heap.size 5 i0 (.int .u8 0) 1 1 Tryz.underlying22 hi hz0 hz1 hz2 rfl (by decide) _ _ _ rfl (hown.alloc _) ⟨w1.heap.size, 0, none⟩ 1 1 [.int .u8 (v % 256)] rfl rfl ?c1 ?c2 ?c3 ?c4 ?c5 ?_))
    case c1 =>
      intro j u hj
      match j, hj with
      | 0, hj => simp at hj; subst hj; simp [Addr.add]
    case c2 => intro u hu; simp at hu; subst hu; rfl
    case c3 => unfold maxLen; omega
    case c4 => omega
    case c5 => have := hb.size; simp; omega
    intro v' w2 hown' hgrow _
    go_wp2
    go_ret
    refine ⟨v', rfl, ?_, ?_⟩
    · have : (be (v / 256) n).map (Value.int .u8) ++ [Value.int .u8 (v % 256)] = (be v (n + 1)).map (Value.int .u8) := by simp [be]
      rw [← this]
      exact hown'
    · refine (hb.alloc hb.size _).grown hgrow (by have := hb.size; simp; omega) ?_
      intro k hk
      exact (hown.lt k hk).1
end Go.Proofs.YteggfkekgdlecaaGreatDoor
