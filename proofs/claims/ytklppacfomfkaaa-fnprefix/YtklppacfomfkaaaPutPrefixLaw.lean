import Derived.Test.YtklppacfomfkaaaPfJ
import Derived.Test.YtklppacfomfkaaaEqBytes
import Derived.Test.YtklppacfomfkaaaMarkBytes
namespace Go.Proofs.Ytklppacfomfkaaa
open Go.RowKit
set_option linter.unusedVariables false

theorem ppI_num (v k h : Int) (w : World) (hv : ¬ (0 ≤ v ∧ v ≤ 4611686018427387903)) :
    Calls Try.prog 5 #[.int .i64 v, .int .i64 k, .int .i64 h] w fun e w' => ∃ r, e = .returned (.tuple #[r, .int .i64 1]) ∧ w'.ownsRow w.heap.size 5 1 r 0 (([] : List Int).map (Value.int .u8)) ∧ Below w.heap.size w w' := by
  have C : ∀ u, Calls Try.prog 12 #[.int .i64 v] u fun e w' => e = .returned (.bool false) ∧ w' = u := fun u => by have := numI v u; rwa [decide_eq_false hv] at this
  have HC : Hid _ := And.intro C True.intro
  clear C hv
  go_enter Try.func5, Try.ntmps5
  go_wp2_with (go_at_call 12; refine (HC.out.1 _).mono ?_; rintro e w' ⟨rfl, hw⟩; subst w')
  go_ret2
  exact ⟨_, rfl, World.ownsRow_nil _ _ _ _, (Below.refl _ _).alloc (Nat.le_refl _) _⟩
theorem ppI_bad (v k h : Int) (w : World) (hv : 0 ≤ v ∧ v ≤ 4611686018427387903) (hV : ∀ u, Calls Try.prog 13 #[opV h k] u fun e w' => e = .returned (.bool false) ∧ Below u.heap.size u w') :
    Calls Try.prog 5 #[.int .i64 v, .int .i64 k, .int .i64 h] w fun e w' => ∃ r, e = .returned (.tuple #[r, .int .i64 1]) ∧ w'.ownsRow w.heap.size 5 1 r 0 (([] : List Int).map (Value.int .u8)) ∧ Below w.heap.size w w' := by
  have C : ∀ u, Calls Try.prog 12 #[.int .i64 v] u fun e w' => e = .returned (.bool true) ∧ w' = u := fun u => by have := numI v u; rwa [decide_eq_true hv] at this
  have b0 : Below w.heap.size w (w.alloc (.cells #[.int .i64 h, .int .i64 k] 35)) := (Below.refl _ _).alloc (Nat.le_refl _) _
  have HC : Hid _ := And.intro C (And.intro hV b0)
  clear C hv hV b0
  unfold opV at HC
  go_enter Try.func5, Try.ntmps5
  go_wp2_with (first
    | (go_at_call 12; refine (HC.out.1 _).mono ?_; rintro e w' ⟨rfl, hw⟩; subst w')
    | (go_at_call 13; refine (HC.out.2.1 _).mono ?_; rintro e w1 ⟨rfl, b1⟩; have H1 : Hid _ := And.intro (HC.out.2.2.trans (b1.mono HC.out.2.2.size)) True.intro; clear b1))
  go_ret2
  exact ⟨_, rfl, World.ownsRow_nil _ _ _ _, H1.out.1⟩
theorem ppI_ok (v h : Int) (k : Nat) (f : Int) (ef : f = fl k) (w : World) (hb : pOK v k h) (hm : h % f = 0) :
    Calls Try.prog 5 #[.int .i64 v, .int .i64 (k : Int), .int .i64 h] w fun e w' => ∃ r, e = .returned (.tuple #[r, .int .i64 0]) ∧ w'.ownsRow w.heap.size 5 1 r (pfx v f h).length ((pfx v f h).map (Value.int .u8)) ∧ Below w.heap.size w w' := by
  obtain ⟨h1, h2, h3, h4, h5, h6⟩ := hb
  have C : ∀ u, Calls Try.prog 12 #[.int .i64 v] u fun e w' => e = .returned (.bool true) ∧ w' = u := fun u => by have := numI v u; rwa [decide_eq_true ⟨h1, h2⟩] at this
  have hV : ∀ u, Calls Try.prog 13 #[opV h (k : Int)] u fun e w' => e = .returned (.bool true) ∧ Below u.heap.size u w' := fun u => validI_ok h k true u (by omega) (by omega) h5 h6 (by rw [← ef, decide_eq_true hm])
  have hP : ∀ u : World, Calls Try.prog 14 #[opV h (k : Int), .slice none 0 0, .int .i64 v] u fun e w' => ∃ r, e = .returned r ∧ w'.ownsRow u.heap.size 5 1 r (pfx v f h).length ((pfx v f h).map (Value.int .u8)) ∧ Below u.heap.size u w' := fun u => by
    have := putI v h k f ef (.slice none 0 0) 0 u.heap.size [] u h1 h2 (by omega) (by omega) h5 (by rw [ef]; exact fl_room k (by omega) h h5 h6 (by rw [← ef]; exact hm)) (World.ownsRow_nil _ _ _ _) (by decide) (Nat.le_refl _)
    simpa using this
  have b0 : Below w.heap.size w (w.alloc (.cells #[.int .i64 h, .int .i64 (k : Int)] 35)) := (Below.refl _ _).alloc (Nat.le_refl _) _
  have cc : ∀ u, Below (w.heap.size + 1) (w.alloc (.cells #[.int .i64 h, .int .i64 (k : Int)] 35)) u → u.cell? ⟨w.heap.size, 0, none⟩ = some (.int .i64 h) ∧ u.cell? ⟨w.heap.size, 1, none⟩ = some (.int .i64 (k : Int)) := by
    intro u hu
    have e := (MapKept.heap_alloc w (.cells #[.int .i64 h, .int .i64 (k : Int)] 35)).1
    have c0 := hu.cell (p := ⟨w.heap.size, 0, none⟩) (Nat.lt_succ_self _)
    have c1 := hu.cell (p := ⟨w.heap.size, 1, none⟩) (Nat.lt_succ_self _)
    rw [c0, c1]
    simp only [World.cell?, e]
    exact ⟨rfl, rfl⟩
  have HC : Hid _ := And.intro C (And.intro hV (And.intro b0 (And.intro hP cc)))
  obtain ⟨L, eL⟩ : ∃ L, L = pfx v f h := ⟨_, rfl⟩
  rw [← eL] at HC ⊢
  clear C hV b0 hP cc eL ef hm
  unfold opV at HC
  go_enter Try.func5, Try.ntmps5
  go_wp2_with (first
    | (go_at_call 12; refine (HC.out.1 _).mono ?_; rintro e w' ⟨rfl, hw⟩; subst w')
    | (go_at_call 13; refine (HC.out.2.1 _).mono ?_; rintro e w1 ⟨rfl, b1⟩; have H1 : Hid _ := And.intro (HC.out.2.2.1.trans (b1.mono HC.out.2.2.1.size)) True.intro; have b1' : Below (w.heap.size + 1) (w.alloc (.cells #[.int .i64 h, .int .i64 (k : Int)] 35)) w1 := (by simpa using b1); obtain ⟨c0, c1⟩ := HC.out.2.2.2.2 w1 b1'; clear b1 b1')
    | (go_at_call 14; refine (HC.out.2.2.2.1 _).mono ?_; rintro e w2 ⟨r2, rfl, o2, b2⟩; have H2 : Hid _ := And.intro (owns_mono o2 H1.out.1.size) (H1.out.1.trans (b2.mono H1.out.1.size)); clear o2 b2))
  go_ret2
  exact ⟨_, rfl, H2.out.1, H2.out.2⟩
theorem i64_bdP {v : Int} (h : (Lit.int .i64 v).wf = true) : -9223372036854775808 ≤ v ∧ v ≤ 9223372036854775807 := by
  simpa [Lit.wf, IntKind.min, IntKind.max, IntKind.signed, IntKind.bits] using h
end Go.Proofs.Ytklppacfomfkaaa
