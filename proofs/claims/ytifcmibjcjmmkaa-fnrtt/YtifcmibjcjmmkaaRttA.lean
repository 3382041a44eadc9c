import Derived.Test.YtifcmibjcjmmkaaMem
import Derived.Test.YtifcmibjcjmmkaaBlocks
import Derived.Laws.StructEq
import Derived.Laws.ResultCell
import Derived.Lib.MinMax
namespace Go.Proofs.Ytifcmibjcjmmkaa
open Go.RowKit
set_option linter.unusedVariables false
set_option linter.unusedSimpArgs false

/-- A round trip's value. -/
abbrev rv (a b c d : Int) : Value := .agg #[.int .i64 a, .int .i64 b, .int .i64 c, .int .i64 d]
abbrev bI (a b c d : Int) : Obj := .cells #[.int .i64 a, .int .i64 b, .int .i64 c, .int .i64 d] 31
def tOK (t : Int) : Prop := 0 ≤ t ∧ t ≤ 1000000000000
instance (t : Int) : Decidable (tOK t) := by unfold tOK; exact inferInstance
def zR (a b c d : Int) : Prop := a = 0 ∧ b = 0 ∧ c = 0 ∧ d = 0
instance (a b c d : Int) : Decidable (zR a b c d) := by unfold zR; exact inferInstance
def okR (a b c d : Int) : Prop := tOK a ∧ tOK b ∧ tOK c ∧ tOK d ∧ (zR a b c d ∨ 1 ≤ a ∧ 1 ≤ b ∧ 1 ≤ c)
instance (a b c d : Int) : Decidable (okR a b c d) := by unfold okR; exact inferInstance

theorem infoRtt : (Try.prog.info? 31).map (·.size) = some 4 := by kernel_rfl
theorem egR (p q : Operand) (xs ys : Array Value) (w : World) : (eqGuard .eql 31 p q (.agg xs) (.agg ys)).run Try.prog w = .ok () w :=
  run_eqGuard_agg w .eql _ p q xs ys (by kernel_rfl)
theorem eqR (a b c d e f g h : Int) (w : World) : (binOp .eql 31 (rv a b c d) (rv e f g h)).run Try.prog w = .ok (.bool (decide (a = e ∧ b = f ∧ c = g ∧ d = h))) w := by
  rw [run_eql_struct, run_equalIn_agg w 9999 _ _ _ (by kernel_rfl) (by kernel_rfl)]
  simp only [Program.fieldsOf, Try.underlying31]
  have hp : ∀ (a : Array Value) (i : Nat) (v : Value) (w : World), a[i]? = some v → (part 3 a i).run Try.prog w = .ok v w := by
    intro a i v w h
    simp [part, isAgg, run_underlying Try.underlying3, h]
  have he : ∀ (x y : Int) (w : World), (Op.equalIn 9999 3 (.int .i64 x) (.int .i64 y)).run Try.prog w = .ok (x == y) w := fun x y w => run_equalIn_int w 9998 3 .i64 .i64 x y Try.underlying3
  have p0 : ∀ w, (part 3 #[.int .i64 a, .int .i64 b, .int .i64 c, .int .i64 d] 0).run Try.prog w = .ok (.int .i64 a) w := fun w => hp _ _ _ w rfl
  have p1 : ∀ w, (part 3 #[.int .i64 a, .int .i64 b, .int .i64 c, .int .i64 d] 1).run Try.prog w = .ok (.int .i64 b) w := fun w => hp _ _ _ w rfl
  have p2 : ∀ w, (part 3 #[.int .i64 a, .int .i64 b, .int .i64 c, .int .i64 d] 2).run Try.prog w = .ok (.int .i64 c) w := fun w => hp _ _ _ w rfl
  have p3 : ∀ w, (part 3 #[.int .i64 a, .int .i64 b, .int .i64 c, .int .i64 d] 3).run Try.prog w = .ok (.int .i64 d) w := fun w => hp _ _ _ w rfl
  have q0 : ∀ w, (part 3 #[.int .i64 e, .int .i64 f, .int .i64 g, .int .i64 h] 0).run Try.prog w = .ok (.int .i64 e) w := fun w => hp _ _ _ w rfl
  have q1 : ∀ w, (part 3 #[.int .i64 e, .int .i64 f, .int .i64 g, .int .i64 h] 1).run Try.prog w = .ok (.int .i64 f) w := fun w => hp _ _ _ w rfl
  have q2 : ∀ w, (part 3 #[.int .i64 e, .int .i64 f, .int .i64 g, .int .i64 h] 2).run Try.prog w = .ok (.int .i64 g) w := fun w => hp _ _ _ w rfl
  have q3 : ∀ w, (part 3 #[.int .i64 e, .int .i64 f, .int .i64 g, .int .i64 h] 3).run Try.prog w = .ok (.int .i64 h) w := fun w => hp _ _ _ w rfl
  by_cases h0 : a = e
  · subst h0
    by_cases h1 : b = f
    · subst h1
      by_cases h2 : c = g
      · subst h2
        by_cases h3 : d = h
        · subst h3
          simp [Op.eqFields, Sem.run_bind, p0, p1, p2, p3, he]
        · simp [Op.eqFields, Sem.run_bind, p0, p1, p2, p3, q0, q1, q2, q3, he, h3]
      · simp [Op.eqFields, Sem.run_bind, p0, p1, p2, p3, q0, q1, q2, q3, he, h2]
    · simp [Op.eqFields, Sem.run_bind, p0, p1, p2, p3, q0, q1, q2, q3, he, h1]
  · simp [Op.eqFields, Sem.run_bind, p0, p1, p2, p3, q0, q1, q2, q3, he, h0]
theorem eqZt (a b c d : Int) (h : zR a b c d) (w : World) : (binOp .eql 31 (rv a b c d) (rv 0 0 0 0)).run Try.prog w = .ok (.bool true) w := by
  rw [eqR, decide_eq_true (show a = 0 ∧ b = 0 ∧ c = 0 ∧ d = 0 from h)]
theorem eqZf (a b c d : Int) (h : ¬ zR a b c d) (w : World) : (binOp .eql 31 (rv a b c d) (rv 0 0 0 0)).run Try.prog w = .ok (.bool false) w := by
  rw [eqR, decide_eq_false (show ¬ (a = 0 ∧ b = 0 ∧ c = 0 ∧ d = 0) from h)]

theorem mn3 (a b c : Int) (ts : Array TypeId) (t : TypeId) (w : World) : (Builtin.min_ ts t #[.int .i64 a, .int .i64 b, .int .i64 c]).run Try.prog w = .ok (.int .i64 (min (min a b) c)) w := by
  have e : ∀ x y : Int, (if y < x then y else x) = min x y := by
    intro x y
    rw [Int.min_def]
    split <;> split <;> omega
  simp [Builtin.min_, Builtin.min2, e]
theorem mx4 (a b c d : Int) (ts : Array TypeId) (t : TypeId) (w : World) : (Builtin.max_ ts t #[.int .i64 a, .int .i64 b, .int .i64 c, .int .i64 d]).run Try.prog w = .ok (.int .i64 (max (max (max a b) c) d)) w := by
  have e : ∀ x y : Int, (if y > x then y else x) = max x y := by
    intro x y
    rw [Int.max_def]
    split <;> split <;> omega
  simp [Builtin.max_, Builtin.max2, e]

theorem timeS_t (t : Int) (w : World) (h : tOK t) : Calls Try.prog 20 #[.int .i64 t] w fun e w' => e = .returned (.bool true) ∧ w' = w := by
  unfold tOK at h
  go_enter Try.func20, Try.ntmps20
  go_wp2
  go_ret
  exact ⟨rfl, rfl⟩
theorem timeS_f (t : Int) (w : World) (h : ¬ tOK t) : Calls Try.prog 20 #[.int .i64 t] w fun e w' => e = .returned (.bool false) ∧ w' = w := by
  unfold tOK at h
  by_cases h0 : 0 ≤ t
  · have h1 : 1000000000000 < t := by omega
    go_enter Try.func20, Try.ntmps20
    go_wp2
    go_ret
    exact ⟨by simp [show ¬ t ≤ 1000000000000 by omega], rfl⟩
  · go_enter Try.func20, Try.ntmps20
    go_wp2
    go_ret
    exact ⟨rfl, rfl⟩
theorem timeI_t (t : Int) (w : World) (h : tOK t) : Calls Try.prog 25 #[.int .i64 t] w fun e w' => e = .returned (.bool true) ∧ w' = w := by
  unfold tOK at h
  go_enter Try.func25, Try.ntmps25
  go_wp2
  go_ret
  exact ⟨rfl, rfl⟩
theorem timeI_f (t : Int) (w : World) (h : ¬ tOK t) : Calls Try.prog 25 #[.int .i64 t] w fun e w' => e = .returned (.bool false) ∧ w' = w := by
  unfold tOK at h
  by_cases h0 : 0 ≤ t
  · have h1 : 1000000000000 < t := by omega
    go_enter Try.func25, Try.ntmps25
    go_wp2
    go_ret
    exact ⟨by simp [show ¬ t ≤ 1000000000000 by omega], rfl⟩
  · go_enter Try.func25, Try.ntmps25
    go_wp2
    go_ret
    exact ⟨rfl, rfl⟩

set_option maxHeartbeats 1000000 in
theorem rokS_t (a b c d : Int) (w : World) (h : okR a b c d) : Calls Try.prog 29 #[rv a b c d] w fun e w' => e = .returned (.bool true) ∧ w' = w.alloc (bI a b c d) := by
  obtain ⟨ha, hb, hc, hd, hz⟩ := h
  have eg := egR
  by_cases z : zR a b c d
  · have ez := eqZt a b c d z
    go_enter Try.func29, Try.ntmps29
    go_wp2_with (go_at_call 20; refine (timeS_t _ _ (by assumption)).mono ?_; rintro e w' ⟨rfl, rfl⟩)
    go_ret
    exact ⟨rfl, rfl⟩
  · have ez := eqZf a b c d z
    have h1 : 1 ≤ a ∧ 1 ≤ b ∧ 1 ≤ c := hz.resolve_left z
    obtain ⟨h1, h2, h3⟩ := h1
    go_enter Try.func29, Try.ntmps29
    go_wp2_with (go_at_call 20; refine (timeS_t _ _ (by assumption)).mono ?_; rintro e w' ⟨rfl, rfl⟩)
    go_ret
    exact ⟨rfl, rfl⟩
set_option maxHeartbeats 1000000 in
theorem rokS_f (a b c d : Int) (w : World) (h : ¬ okR a b c d) : Calls Try.prog 29 #[rv a b c d] w fun e w' => e = .returned (.bool false) ∧ w' = w.alloc (bI a b c d) := by
  have eg := egR
  by_cases ha : ¬ (tOK a)
  · go_enter Try.func29, Try.ntmps29
    go_wp2_with (go_at_call 20; refine (timeS_f _ _ (by assumption)).mono ?_; rintro e w' ⟨rfl, rfl⟩)
    go_ret
    exact ⟨rfl, rfl⟩
  have ha := Classical.not_not.1 ha
  by_cases hb : ¬ (tOK b)
  · go_enter Try.func29, Try.ntmps29
    go_wp2_with (go_at_call 20; first | (refine (timeS_f _ _ (by assumption)).mono ?_; rintro e w' ⟨rfl, rfl⟩) | (refine (timeS_t _ _ (by assumption)).mono ?_; rintro e w' ⟨rfl, rfl⟩))
    go_ret
    exact ⟨rfl, rfl⟩
  have hb := Classical.not_not.1 hb
  by_cases hc : ¬ (tOK c)
  · go_enter Try.func29, Try.ntmps29
    go_wp2_with (go_at_call 20; first | (refine (timeS_f _ _ (by assumption)).mono ?_; rintro e w' ⟨rfl, rfl⟩) | (refine (timeS_t _ _ (by assumption)).mono ?_; rintro e w' ⟨rfl, rfl⟩))
    go_ret
    exact ⟨rfl, rfl⟩
  have hc := Classical.not_not.1 hc
  by_cases hd : ¬ (tOK d)
  · go_enter Try.func29, Try.ntmps29
    go_wp2_with (go_at_call 20; first | (refine (timeS_f _ _ (by assumption)).mono ?_; rintro e w' ⟨rfl, rfl⟩) | (refine (timeS_t _ _ (by assumption)).mono ?_; rintro e w' ⟨rfl, rfl⟩))
    go_ret
    exact ⟨rfl, rfl⟩
  have hd := Classical.not_not.1 hd
  have z : ¬ zR a b c d := fun z => h ⟨ha, hb, hc, hd, Or.inl z⟩
  have ez := eqZf a b c d z
  have hn : ¬ (1 ≤ a ∧ 1 ≤ b ∧ 1 ≤ c) := fun q => h ⟨ha, hb, hc, hd, Or.inr q⟩
  by_cases h1 : ¬ (1 ≤ a)
  · go_enter Try.func29, Try.ntmps29
    go_wp2_with (go_at_call 20; refine (timeS_t _ _ (by assumption)).mono ?_; rintro e w' ⟨rfl, rfl⟩)
    go_ret
    exact ⟨rfl, rfl⟩
  have h1 := Classical.not_not.1 h1
  by_cases h2 : ¬ (1 ≤ b)
  · go_enter Try.func29, Try.ntmps29
    go_wp2_with (go_at_call 20; refine (timeS_t _ _ (by assumption)).mono ?_; rintro e w' ⟨rfl, rfl⟩)
    go_ret
    exact ⟨rfl, rfl⟩
  have h2 := Classical.not_not.1 h2
  have h3 : ¬ 1 ≤ c := by omega
  go_enter Try.func29, Try.ntmps29
  go_wp2_with (go_at_call 20; refine (timeS_t _ _ (by assumption)).mono ?_; rintro e w' ⟨rfl, rfl⟩)
  go_ret
  exact ⟨by simp [h3], rfl⟩

set_option maxHeartbeats 1000000 in
theorem rokI_t (a b c d : Int) (w : World) (h : okR a b c d) : Calls Try.prog 31 #[rv a b c d] w fun e w' => e = .returned (.bool true) ∧ w' = w.alloc (bI a b c d) := by
  obtain ⟨ha, hb, hc, hd, hz⟩ := h
  unfold tOK at ha hb hc hd
  have eg := egR
  have m3 := mn3 a b c
  have m4 := mx4 a b c d
  by_cases z : zR a b c d
  · have ez := eqZt a b c d z
    go_enter Try.func31, Try.ntmps31
    go_wp2
    go_ret
    exact ⟨rfl, rfl⟩
  · have ez := eqZf a b c d z
    have h1 : 1 ≤ a ∧ 1 ≤ b ∧ 1 ≤ c := hz.resolve_left z
    have h2 : 1 ≤ min (min a b) c := by omega
    have h3 : max (max (max a b) c) d ≤ 1000000000000 := by omega
    generalize min (min a b) c = u at m3 h2
    generalize max (max (max a b) c) d = v at m4 h3
    go_enter Try.func31, Try.ntmps31
    go_wp2
    go_ret
    exact ⟨by simp [h3], rfl⟩
set_option maxHeartbeats 1000000 in
theorem rokI_f (a b c d : Int) (w : World) (h : ¬ okR a b c d) : Calls Try.prog 31 #[rv a b c d] w fun e w' => e = .returned (.bool false) ∧ w' = w.alloc (bI a b c d) := by
  have eg := egR
  have m3 := mn3 a b c
  have m4 := mx4 a b c d
  have z : ¬ zR a b c d := fun z => by
    obtain ⟨rfl, rfl, rfl, rfl⟩ := z
    exact h (by decide)
  have ez := eqZf a b c d z
  have hh : ¬ (1 ≤ min (min a b) c ∧ 0 ≤ d ∧ max (max (max a b) c) d ≤ 1000000000000) := fun q => h ⟨⟨by omega, by omega⟩, ⟨by omega, by omega⟩, ⟨by omega, by omega⟩, ⟨by omega, by omega⟩, Or.inr ⟨by omega, by omega, by omega⟩⟩
  generalize min (min a b) c = u at m3 hh
  generalize max (max (max a b) c) d = v at m4 hh
  by_cases h1 : ¬ (1 ≤ u)
  · go_enter Try.func31, Try.ntmps31
    go_wp2
    go_ret
    exact ⟨rfl, rfl⟩
  have h1 := Classical.not_not.1 h1
  by_cases h2 : ¬ (0 ≤ d)
  · go_enter Try.func31, Try.ntmps31
    go_wp2
    go_ret
    exact ⟨rfl, rfl⟩
  have h2 := Classical.not_not.1 h2
  have h3 : ¬ v ≤ 1000000000000 := by omega
  go_enter Try.func31, Try.ntmps31
  go_wp2
  go_ret
  exact ⟨by simp [h3], rfl⟩
end Go.Proofs.Ytifcmibjcjmmkaa
