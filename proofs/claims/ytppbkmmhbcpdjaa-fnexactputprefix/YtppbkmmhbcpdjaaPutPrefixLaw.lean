import Derived.Test.YtppbkmmhbcpdjaaPfJ
import Derived.Test.YtppbkmmhbcpdjaaEqBytes
import Derived.Test.YtppbkmmhbcpdjaaMarkBytes
namespace Go.Proofs.Ytppbkmmhbcpdjaa
open Go.RowKit
set_option linter.unusedVariables false

set_option maxHeartbeats 800000 in
theorem putPrefixLaw (v k h cd : Int) (n : Nat) (xs : List Int) (w : World) (hn : n ≤ 11)
    (hS : ∀ w : World, Calls Try.prog 5 #[.int .i64 v, .int .i64 k, .int .i64 h] w fun e w' => ∃ r, e = .returned (.tuple #[r, .int .i64 cd]) ∧ w'.ownsRow w.heap.size 5 1 r n (xs.map (Value.int .u8)) ∧ Below w.heap.size w w')
    (hI : ∀ w : World, Calls Try.prog 6 #[.int .i64 v, .int .i64 k, .int .i64 h] w fun e w' => ∃ r, e = .returned (.tuple #[r, .int .i64 cd]) ∧ w'.ownsRow w.heap.size 5 1 r n (xs.map (Value.int .u8)) ∧ Below w.heap.size w w') :
    Calls Try.prog 3 #[.int .i64 v, .int .i64 k, .int .i64 h] w fun e w' => e = .returned (.bool true) ∧ Below w.heap.size w w' := by
  go_enter Try.func3, Try.ntmps3
  go_wp2_with fail
  go_at_call 5
  refine (hS _).mono ?_
  rintro e w1 ⟨rS, rfl, oS, b1⟩
  have hlen : xs.length = n := by simpa using oS.1
  go_wp2_with fail
  go_at_call 6
  refine (hI _).mono ?_
  rintro e w2 ⟨rI, rfl, oI, b2⟩
  go_wp2_with fail
  go_at_call 7
  refine (eqBytes_same _ _ xs _ (row_of_owns oI) ((row_of_owns oS).below b2) (by omega)).mono ?_
  rintro e w3 ⟨rfl, m3, rfl⟩
  go_wp2_with fail
  go_at_call 8
  refine (markBytes 1 n w1.heap.size _ xs _ (by omega) (by decide) (by decide) (owns_drewN oI m3)).mono ?_
  rintro e w4 ⟨rfl, oM, b4, z4⟩
  have b4' : Below w1.heap.size w1 w4 := b2.trans (below_drewN (Below.refl _ _) m3 |>.trans b4)
  go_wp2_with fail
  go_at_call 9
  refine (heldBytes 1 n _ _ (row_of_owns oM) (by omega) (by decide) (by decide)).mono ?_
  rintro e w5 ⟨rfl, rfl⟩
  go_wp2_with fail
  go_at_call 6
  refine (hI _).mono ?_
  rintro e w6 ⟨rH, rfl, oH, b6⟩
  have b6' : Below w1.heap.size w1 w6 := b4'.trans (b6.mono b4'.size)
  go_wp2_with fail
  go_at_call 7
  refine (eqBytes_same _ _ xs _ (row_of_owns oH) ((row_of_owns oS).below b6') (by omega)).mono ?_
  rintro e w7 ⟨rfl, m7, rfl⟩
  go_wp2_with fail
  go_at_call 9
  refine (heldBytes 1 n _ _ (((row_of_owns oM).below b6).drewN m7) (by omega) (by decide) (by decide)).mono ?_
  rintro e w8 ⟨rfl, rfl⟩
  go_wp2
  go_ret
  exact ⟨rfl, below_drewN (b1.trans (b6'.mono b1.size)) m7⟩



theorem ppI_num (v k h : Int) (w : World) (hv : ¬ (0 ≤ v ∧ v ≤ 4611686018427387903)) :
    Calls Try.prog 6 #[.int .i64 v, .int .i64 k, .int .i64 h] w fun e w' => ∃ r, e = .returned (.tuple #[r, .int .i64 1]) ∧ w'.ownsRow w.heap.size 5 1 r 0 (([] : List Int).map (Value.int .u8)) ∧ Below w.heap.size w w' := by
  have C : ∀ u, Calls Try.prog 14 #[.int .i64 v] u fun e w' => e = .returned (.bool false) ∧ w' = u := fun u => by have := numI v u; rwa [decide_eq_false hv] at this
  have HC : Hid _ := And.intro C True.intro
  clear C hv
  go_enter Try.func6, Try.ntmps6
  go_wp2_with (go_at_call 14; refine (HC.out.1 _).mono ?_; rintro e w' ⟨rfl, hw⟩; subst w')
  go_ret2
  exact ⟨_, rfl, World.ownsRow_nil _ _ _ _, (Below.refl _ _).alloc (Nat.le_refl _) _⟩
theorem ppI_bad (v k h : Int) (w : World) (hv : 0 ≤ v ∧ v ≤ 4611686018427387903) (hV : ∀ u, Calls Try.prog 15 #[opV h k] u fun e w' => e = .returned (.bool false) ∧ Below u.heap.size u w') :
    Calls Try.prog 6 #[.int .i64 v, .int .i64 k, .int .i64 h] w fun e w' => ∃ r, e = .returned (.tuple #[r, .int .i64 1]) ∧ w'.ownsRow w.heap.size 5 1 r 0 (([] : List Int).map (Value.int .u8)) ∧ Below w.heap.size w w' := by
  have C : ∀ u, Calls Try.prog 14 #[.int .i64 v] u fun e w' => e = .returned (.bool true) ∧ w' = u := fun u => by have := numI v u; rwa [decide_eq_true hv] at this
  have b0 : Below w.heap.size w (w.alloc (.cells #[.int .i64 h, .int .i64 k] 34)) := (Below.refl _ _).alloc (Nat.le_refl _) _
  have HC : Hid _ := And.intro C (And.intro hV b0)
  clear C hv hV b0
  unfold opV at HC
  go_enter Try.func6, Try.ntmps6
  go_wp2_with (first
    | (go_at_call 14; refine (HC.out.1 _).mono ?_; rintro e w' ⟨rfl, hw⟩; subst w')
    | (go_at_call 15; refine (HC.out.2.1 _).mono ?_; rintro e w1 ⟨rfl, b1⟩; have H1 : Hid _ := And.intro (HC.out.2.2.trans (b1.mono HC.out.2.2.size)) True.intro; clear b1))
  go_ret2
  exact ⟨_, rfl, World.ownsRow_nil _ _ _ _, H1.out.1⟩
theorem ppI_ok (v h : Int) (k : Nat) (f : Int) (ef : f = fl k) (w : World) (hb : pOK v k h) (hm : h % f = 0) :
    Calls Try.prog 6 #[.int .i64 v, .int .i64 (k : Int), .int .i64 h] w fun e w' => ∃ r, e = .returned (.tuple #[r, .int .i64 0]) ∧ w'.ownsRow w.heap.size 5 1 r (pfx v f h).length ((pfx v f h).map (Value.int .u8)) ∧ Below w.heap.size w w' := by
  obtain ⟨h1, h2, h3, h4, h5, h6⟩ := hb
  have C : ∀ u, Calls Try.prog 14 #[.int .i64 v] u fun e w' => e = .returned (.bool true) ∧ w' = u := fun u => by have := numI v u; rwa [decide_eq_true ⟨h1, h2⟩] at this
  have hV : ∀ u, Calls Try.prog 15 #[opV h (k : Int)] u fun e w' => e = .returned (.bool true) ∧ Below u.heap.size u w' := fun u => validI_ok h k true u (by omega) (by omega) h5 h6 (by rw [← ef, decide_eq_true hm])
  have hP : ∀ u : World, Calls Try.prog 16 #[opV h (k : Int), .slice none 0 0, .int .i64 v] u fun e w' => ∃ r, e = .returned r ∧ w'.ownsRow u.heap.size 5 1 r (pfx v f h).length ((pfx v f h).map (Value.int .u8)) ∧ Below u.heap.size u w' := fun u => by
    have := putI v h k f ef (.slice none 0 0) 0 u.heap.size [] u h1 h2 (by omega) (by omega) h5 (by rw [ef]; exact fl_room k (by omega) h h5 h6 (by rw [← ef]; exact hm)) (World.ownsRow_nil _ _ _ _) (by decide) (Nat.le_refl _)
    simpa using this
  have b0 : Below w.heap.size w (w.alloc (.cells #[.int .i64 h, .int .i64 (k : Int)] 34)) := (Below.refl _ _).alloc (Nat.le_refl _) _
  have cc : ∀ u, Below (w.heap.size + 1) (w.alloc (.cells #[.int .i64 h, .int .i64 (k : Int)] 34)) u → u.cell? ⟨w.heap.size, 0, none⟩ = some (.int .i64 h) ∧ u.cell? ⟨w.heap.size, 1, none⟩ = some (.int .i64 (k : Int)) := by
    intro u hu
    have e := (MapKept.heap_alloc w (.cells #[.int .i64 h, .int .i64 (k : Int)] 34)).1
    have c0 := hu.cell (p := ⟨w.heap.size, 0, none⟩) (Nat.lt_succ_self _)
    have c1 := hu.cell (p := ⟨w.heap.size, 1, none⟩) (Nat.lt_succ_self _)
    rw [c0, c1]
    simp only [World.cell?, e]
    exact ⟨rfl, rfl⟩
  have HC : Hid _ := And.intro C (And.intro hV (And.intro b0 (And.intro hP cc)))
  obtain ⟨L, eL⟩ : ∃ L, L = pfx v f h := ⟨_, rfl⟩
  rw [← eL] at HC ⊢
  clear C hV b0 hP cc eL ef hm
  unfold opV at HC
  go_enter Try.func6, Try.ntmps6
  go_wp2_with (first
    | (go_at_call 14; refine (HC.out.1 _).mono ?_; rintro e w' ⟨rfl, hw⟩; subst w')
    | (go_at_call 15; refine (HC.out.2.1 _).mono ?_; rintro e w1 ⟨rfl, b1⟩; have H1 : Hid _ := And.intro (HC.out.2.2.1.trans (b1.mono HC.out.2.2.1.size)) True.intro; have b1' : Below (w.heap.size + 1) (w.alloc (.cells #[.int .i64 h, .int .i64 (k : Int)] 34)) w1 := (by simpa using b1); obtain ⟨c0, c1⟩ := HC.out.2.2.2.2 w1 b1'; clear b1 b1')
    | (go_at_call 16; refine (HC.out.2.2.2.1 _).mono ?_; rintro e w2 ⟨r2, rfl, o2, b2⟩; have H2 : Hid _ := And.intro (owns_mono o2 H1.out.1.size) (H1.out.1.trans (b2.mono H1.out.1.size)); clear o2 b2))
  go_ret2
  exact ⟨_, rfl, H2.out.1, H2.out.2⟩
theorem i64_bdP {v : Int} (h : (Lit.int .i64 v).wf = true) : -9223372036854775808 ≤ v ∧ v ≤ 9223372036854775807 := by
  simpa [Lit.wf, IntKind.min, IntKind.max, IntKind.signed, IntKind.bits] using h
theorem fnExactPutPrefix_walk (v k h : Int) (_ : (Lit.int .i64 v).wf = true) (_ : (Lit.int .i64 k).wf = true) (_ : (Lit.int .i64 h).wf = true) (w : World) :
    Calls Try.prog 3 #[.int .i64 v, .int .i64 k, .int .i64 h] w fun e w' => e = .returned (.bool true) ∧ Below w.heap.size w w' := by
  by_cases hb : pOK v k h
  · obtain ⟨h1, h2, h3, h4, h5, h6⟩ := id hb
    obtain ⟨j, rfl⟩ := Int.eq_ofNat_of_zero_le (show 0 ≤ k by omega)
    by_cases hm : h % fl j = 0
    · refine putPrefixLaw v j h 0 _ (pfx v (fl j) h) w (pfx_len _ _ _) (fun w => ?_) (fun w => ppI_ok v h j _ rfl w hb hm)
      by_cases hlt : v < fl j - 1
      · exact ppS_one v h j _ rfl w hb hm hlt
      · exact ppS_more v h j _ rfl w hb hm (by omega)
    · exact putPrefixLaw v j h 1 0 [] w (by decide) (fun w => ppS_mod v h j _ rfl w hb hm) (fun w => ppI_bad v j h w ⟨h1, h2⟩ (fun u => validI_ok h j false u (by omega) (by omega) h5 h6 (by rw [decide_eq_false hm])))
  · refine putPrefixLaw v k h 1 0 [] w (by decide) (fun w => ppS_bad v k h w hb) (fun w => ?_)
    by_cases hv : 0 ≤ v ∧ v ≤ 4611686018427387903
    · refine ppI_bad v k h w hv (fun u => ?_)
      by_cases hk : 1 ≤ k ∧ k ≤ 8
      · exact validI_bad h k u hk (by unfold pOK at hb; omega)
      · exact validI_bits h k u hk
    · exact ppI_num v k h w hv
end Go.Proofs.Ytppbkmmhbcpdjaa
